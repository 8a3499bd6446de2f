"""[1.1], [1.2], and [0.1] to [0.5] and [0.9] of the functions on words."""
import unittest

from tests import brute
from tests.wrong import check_call, check_is, check_wrong, size_at, vector_at, width_at, word_at
from wordlaws.base import words
from wordlaws.base.words import dot_product, is_vector, is_width, is_word
from wordlaws.base.words import vector_multiple, vector_sum, word_inverse, word_level
from wordlaws.errors import InvalidNumber, InvalidVector

WIDTHS = range(1, 17)
SIZES = (1, 2, 3, 5, 39, 40)


def edge_words(width):
    """Words of the width at both ends, around each power of two, and a few between."""
    top = 2 ** width
    found = {0, 1, top - 1, top - 2, top // 2, top // 3, 0xA5A5 % top}
    for k in range(width):
        found |= {2 ** k, 2 ** k - 1, (2 ** k + 1) % top, top - 2 ** k}
    return sorted(word for word in found if 0 <= word < top)


def any_vector_at(place):
    return lambda args: None if brute.is_any_vector(args[0], args[place]) else (InvalidVector,)


def second_at(place):
    def check(args):
        return None if brute.is_vector(args[0], len(args[place - 1]), args[place]) else (InvalidVector,)
    return check


def odd_at(place):
    return lambda args: None if args[place] % 2 == 1 else (InvalidNumber, "value", args[place])


class Kinds(unittest.TestCase):
    def test_constants(self):
        self.assertEqual((words.MAX_WIDTH, words.MAX_SIZE), (16, 40))

    def test_widths(self):
        for value in range(-3, 50):
            self.assertIs(is_width(value), 1 <= value <= 16)
        check_is(self, is_width, (4,), [], brute.is_width)

    def test_words(self):
        for width in WIDTHS:
            for word in edge_words(width):
                self.assertIs(is_word(width, word), True)
            for word in (-1, -2 ** width, 2 ** width, 2 ** width + 1, True, False, 10 ** 39):
                self.assertIs(is_word(width, word), False)
        check_is(self, is_word, (4, 1), [width_at(0)], brute.is_word)

    def test_vectors(self):
        for width in WIDTHS:
            for size in SIZES:
                top = 2 ** width
                vector = tuple(place * 7919 % top for place in range(size))
                self.assertIs(is_vector(width, size, vector), True)
                self.assertIs(is_vector(width, size, (0,) * size), True)
                self.assertIs(is_vector(width, size, (top - 1,) * size), True)
                for wrong in (vector[1:], vector + (0,), list(vector), (top,) + vector[1:], vector[1:] + (-1,)):
                    self.assertIs(is_vector(width, size, wrong), False)
                for part in (True, False, None, "0", (0,), [0], {0: 0}, 10 ** 39):
                    for place in (0, size // 2, size - 1):
                        wrong = vector[:place] + (part,) + vector[place + 1:]
                        self.assertIs(is_vector(width, size, wrong), False)
        check_is(self, is_vector, (4, 2, (1, 1)), [width_at(0), size_at(1)], brute.is_vector)

    def test_bounds_of_the_other_parameters(self):
        for width in (0, -1, 17, True, 10 ** 39):
            check_call(self, is_word, [width_at(0)], (width, 0))
            check_call(self, is_vector, [width_at(0)], (width, 0, (0,)))
        for size in (0, -1, 41, True, 10 ** 39):
            check_call(self, is_vector, [width_at(0), size_at(1)], (1, size, (0,)))


class Vectors(unittest.TestCase):
    def test_sum(self):
        for width in WIDTHS:
            for size in SIZES:
                source = brute.seeded(width * 100 + size)
                vectors = brute.some_vectors(source, width, size, 5) + ((2 ** width - 1,) * size,)
                self.assertEqual(vector_sum(width, size), (0,) * size)
                for many in range(1, 7):
                    expected = brute.mixed(width, size, vectors[:many], [1] * many)
                    self.assertEqual(vector_sum(width, size, *vectors[:many]), expected)
                    self.assertEqual(vector_sum(width, size, *vectors[many - 1::-1]), expected)

    def test_multiple(self):
        for width in WIDTHS:
            for size in SIZES:
                vector = brute.some_vector(brute.seeded(width * 100 + size), width, size)
                for factor in edge_words(width):
                    expected = brute.times(width, vector, factor)
                    self.assertEqual(vector_multiple(width, vector, factor), expected)
                self.assertEqual(vector_multiple(width, vector, 0), (0,) * size)
                self.assertEqual(vector_multiple(width, vector, 1), vector)

    def test_dot_product(self):
        for width in WIDTHS:
            for size in SIZES:
                source = brute.seeded(width * 100 + size)
                for first in brute.some_vectors(source, width, size, 3) + ((2 ** width - 1,) * size,):
                    for second in brute.some_vectors(source, width, size, 3) + ((0,) * size, (1,) * size):
                        expected = sum(x * y for x, y in zip(first, second)) % 2 ** width
                        self.assertEqual(dot_product(width, first, second), expected)

    def test_results_are_tuples_of_integers(self):
        for result in (vector_sum(4, 2), vector_sum(4, 1, (3,)), vector_multiple(4, (1, 9), 3)):
            self.assertIs(type(result), tuple)
            self.assertEqual({type(entry) for entry in result}, {int})
        self.assertIs(type(dot_product(4, (1,), (3,))), int)

    def test_wrong_arguments(self):
        start = [width_at(0), size_at(1)]
        check_wrong(self, vector_sum, (4, 2), start)
        check_wrong(self, vector_sum, (4, 2, (1, 2)), start + [vector_at(2)])
        check_wrong(self, vector_sum, (4, 2, (1, 2), (3, 4)), start + [vector_at(2), vector_at(3)])
        check_wrong(self, vector_multiple, (4, (1, 2), 3), [width_at(0), any_vector_at(1), word_at(2)])
        check_wrong(self, dot_product, (4, (1, 2), (3, 4)), [width_at(0), any_vector_at(1), second_at(2)])

    def test_wrong_sizes(self):
        for size in range(1, 44):
            vector = (1,) * size
            check_call(self, vector_multiple, [width_at(0), any_vector_at(1)], (1, vector, 1))
            for other in range(1, 44):
                checks = [width_at(0), any_vector_at(1), second_at(2)]
                check_call(self, dot_product, checks, (1, vector, (1,) * other))
                check_call(self, vector_sum, [width_at(0), size_at(1), vector_at(2)], (1, size, (1,) * other))
        for empty in ((), [], None):
            check_call(self, vector_multiple, [width_at(0), any_vector_at(1)], (1, empty, 1))
            check_call(self, dot_product, [width_at(0), any_vector_at(1)], (1, empty, empty))

    def test_factors_beyond_the_words(self):
        for width in WIDTHS:
            for factor in (-1, 2 ** width, 2 ** width + 1, True, False):
                check_call(self, vector_multiple, [word_at(2)], (width, (1, 1), factor))

    def test_entries_beyond_the_words(self):
        for width in WIDTHS:
            for entry in (-1, 2 ** width, True, False):
                vector = (0, entry, 0)
                check_call(self, vector_sum, [vector_at(3)], (width, 3, (0, 0, 0), vector))
                check_call(self, vector_multiple, [any_vector_at(1)], (width, vector, 1))
                check_call(self, dot_product, [any_vector_at(1)], (width, vector, (0, 0, 0)))
                check_call(self, dot_product, [any_vector_at(1), second_at(2)], (width, (0, 0, 0), vector))


class Levels(unittest.TestCase):
    def test_level(self):
        for width in WIDTHS:
            self.assertEqual(word_level(width, 0), width)
            for word in edge_words(width) if width > 8 else range(2 ** width):
                divisors = [k for k in range(width + 1) if word % 2 ** k == 0]
                self.assertEqual(word_level(width, word), max(divisors))

    def test_inverse(self):
        for width in WIDTHS:
            for word in range(1, 2 ** width, 2) if width < 12 else [word for word in edge_words(width) if word % 2]:
                found = word_inverse(width, word)
                self.assertEqual((is_word(width, found), word * found % 2 ** width), (True, 1))

    def test_no_inverse(self):
        for width in WIDTHS:
            for word in edge_words(width):
                check_call(self, word_inverse, [odd_at(1)], (width, word))

    def test_beyond_the_words(self):
        for width in WIDTHS:
            for word in (-1, -2 ** width, 2 ** width, 2 ** width + 1):
                check_call(self, word_level, [word_at(1)], (width, word))
                check_call(self, word_inverse, [word_at(1)], (width, word))

    def test_wrong_arguments(self):
        check_wrong(self, word_level, (4, 12), [width_at(0), word_at(1)])
        check_wrong(self, word_inverse, (4, 3), [width_at(0), word_at(1), odd_at(1)])


class Examples(unittest.TestCase):
    def test_example(self):
        self.assertEqual(vector_sum(4, 2, (9, 1), (9, 2)), (2, 3))
        self.assertEqual(vector_multiple(4, (3, 8), 6), (2, 0))
        self.assertEqual(dot_product(4, (3, 2), (5, 1)), 1)
        self.assertEqual(word_level(4, 12), 2)
        self.assertEqual(word_inverse(4, 3), 11)
