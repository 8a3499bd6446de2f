"""[3.1], and [0.1] to [0.5] and [0.9] of the functions on duals."""
import itertools
import unittest

from tests import brute
from tests.test_bases import LARGE, SMALL, some_lists
from tests.wrong import basis_at, check_call, check_wrong, size_at, vectors_at, width_at
from wordlaws.errors import InvalidVector
from wordlaws.modules.bases import basis_of, contains, is_basis, joined_basis, member_count
from wordlaws.modules.duals import annihilator, common_basis, solution

START = [width_at(0), size_at(1)]


def values_at(place):
    def check(args):
        width, vectors, values = args[0], args[place - 1], args[place]
        right = type(values) is tuple and len(values) == len(vectors)
        return None if right and all(brute.is_word(width, word) for word in values) else (InvalidVector,)
    return check


def whole(size):
    return tuple(tuple(int(place == k) for place in range(size)) for k in range(size))


class Annihilators(unittest.TestCase):
    def test_against_a_search(self):
        for width, size in SMALL:
            for vectors in some_lists(width, size):
                basis = basis_of(width, size, vectors)
                dual = annihilator(width, size, basis)
                self.assertTrue(brute.is_basis(width, size, dual))
                expected = {
                    vector for vector in brute.all_vectors(width, size)
                    if not any(brute.dot(width, vector, other) for other in vectors)
                }
                self.assertEqual(brute.span(width, size, dual), expected)
                self.assertEqual(annihilator(width, size, dual), basis)
                self.assertEqual(len(expected) * len(brute.span(width, size, vectors)), 2 ** (width * size))

    def test_large(self):
        for width, size in LARGE:
            source = brute.seeded(width * 100 + size)
            for many in (0, 1, size // 2, size - 1, size + 1):
                vectors = brute.some_vectors(source, width, size, many)
                basis = basis_of(width, size, vectors)
                dual = annihilator(width, size, basis)
                self.assertTrue(is_basis(width, size, dual))
                for first, second in itertools.product(vectors, dual):
                    self.assertEqual(brute.dot(width, first, second), 0)
                counts = member_count(width, size, basis) * member_count(width, size, dual)
                self.assertEqual(counts, 2 ** (width * size))
                self.assertEqual(annihilator(width, size, dual), basis)

    def test_ends(self):
        for width, size in ((1, 1), (4, 2), (16, 40)):
            self.assertEqual(annihilator(width, size, ()), whole(size))
            self.assertEqual(annihilator(width, size, whole(size)), ())

    def test_wrong_arguments(self):
        check_wrong(self, annihilator, (4, 2, ((2, 1), (0, 8))), START + [basis_at(2)])


class Common(unittest.TestCase):
    def test_against_a_search(self):
        for width, size in SMALL:
            lists = list(some_lists(width, size))[::7]
            for parts in zip(lists, lists[1:], lists[2:]):
                bases = [basis_of(width, size, vectors) for vectors in parts]
                spans = [brute.span(width, size, vectors) for vectors in parts]
                self.assertEqual(common_basis(width, size, bases[0]), bases[0])
                for many in (2, 3):
                    common = common_basis(width, size, *bases[:many])
                    self.assertTrue(brute.is_basis(width, size, common))
                    self.assertEqual(brute.span(width, size, common), frozenset.intersection(*spans[:many]))
                    for order in itertools.permutations(bases[:many]):
                        self.assertEqual(common_basis(width, size, *order), common)

    def test_large(self):
        for width, size in LARGE:
            source = brute.seeded(width * 100 + size)
            one = basis_of(width, size, brute.some_vectors(source, width, size, size))
            two = basis_of(width, size, brute.some_vectors(source, width, size, size))
            common = common_basis(width, size, one, two)
            self.assertTrue(is_basis(width, size, common))
            for vector in common:
                self.assertTrue(contains(width, size, one, vector) and contains(width, size, two, vector))
            # The numbers of vectors of the sum and of the intersection have the product of both numbers.
            joined = joined_basis(width, size, one, two)
            counts = [member_count(width, size, basis) for basis in (one, two, common, joined)]
            self.assertEqual(counts[0] * counts[1], counts[2] * counts[3])

    def test_none(self):
        for width, size in ((1, 1), (4, 2), (16, 40)):
            self.assertEqual(common_basis(width, size), whole(size))
            self.assertEqual(common_basis(width, size, ()), ())
            self.assertEqual(common_basis(width, size, whole(size), ()), ())

    def test_wrong_arguments(self):
        check_wrong(self, common_basis, (4, 2), START)
        check_wrong(self, common_basis, (4, 2, ((2, 1), (0, 8))), START + [basis_at(2)])
        both = (4, 2, ((2, 1), (0, 8)), ((1, 0),))
        check_wrong(self, common_basis, both, START + [basis_at(2), basis_at(3)])


class Solutions(unittest.TestCase):
    def check(self, width, size, vectors, values, solvable):
        found = solution(width, size, vectors, values)
        if not solvable:
            self.assertIsNone(found)
            return
        self.assertTrue(brute.is_vector(width, size, found), found)
        self.assertEqual(tuple(brute.dot(width, vector, found) for vector in vectors), values)

    def test_against_a_search(self):
        for width, size in ((1, 1), (2, 1), (4, 1), (1, 2), (2, 2), (1, 3), (2, 3)):
            source = brute.seeded(width * 100 + size)
            everything = brute.all_vectors(width, size)
            for vectors in list(some_lists(width, size))[::3]:
                images = {tuple(brute.dot(width, vector, other) for vector in vectors) for other in everything}
                for values in images:
                    self.check(width, size, vectors, values, True)
                for _ in range(20):
                    values = tuple(source.randrange(2 ** width) for _ in vectors)
                    self.check(width, size, vectors, values, values in images)

    def test_large(self):
        for width, size in LARGE:
            source = brute.seeded(width * 100 + size)
            for many in (1, size // 2 + 1, size, size + 1, 200):
                vectors = brute.some_vectors(source, width, size, many)
                secret = brute.some_vector(source, width, size)
                values = tuple(brute.dot(width, vector, secret) for vector in vectors)
                self.check(width, size, vectors, values, True)
                # The same vector with two values, and twice a vector with an odd value.
                other = (values[-1] + 1) % 2 ** width
                self.check(width, size, vectors + vectors[-1:], values + (other,), False)
                double = brute.times(width, vectors[0], 2)
                self.check(width, size, vectors + (double,), values + (1,), False)
                top = 2 ** (width - 1)
                even = tuple(brute.times(width, vector, top) for vector in vectors)
                self.check(width, size, even, tuple(word * top % 2 ** width for word in values), True)

    def test_no_vectors(self):
        for width, size in ((1, 1), (4, 2), (16, 40)):
            self.check(width, size, (), (), True)
            self.check(width, size, ((0,) * size,), (0,), True)
            self.check(width, size, ((0,) * size,), (1,), False)

    def test_wrong_values(self):
        vectors = ((1, 1), (0, 2))
        for values in ((), (3,), (3, 1, 0), [3, 1], (3, 16), (-1, 1), (True, 1), (3, None), ("3", 1), None, {}):
            check_call(self, solution, [values_at(3)], (4, 2, vectors, values))
        check_call(self, solution, [values_at(3)], (4, 2, (), (0,)))

    def test_wrong_arguments(self):
        checks = START + [vectors_at(2), values_at(3)]
        check_wrong(self, solution, (4, 2, ((1, 1), (0, 2)), (3, 1)), checks)


class Examples(unittest.TestCase):
    def test_examples(self):
        self.assertEqual(annihilator(4, 2, ((1, 1), (0, 2))), ((8, 8),))
        self.assertEqual(common_basis(4, 2, ((1, 0),), ((2, 4), (0, 8))), ((4, 0),))
        self.assertIsNone(solution(4, 2, ((1, 1), (0, 2)), (3, 1)))
