"""[2.1], [2.2], [2.3], and [0.1] to [0.5] and [0.9] of the functions on bases."""
import itertools
import unittest

from tests import brute
from tests.wrong import basis_at, check_call, check_is, check_wrong, is_basis as right_basis
from tests.wrong import size_at, vector_at, vectors_at, width_at
from wordlaws.errors import InvalidBasis, InvalidVector
from wordlaws.modules.bases import basis_of, contains, coordinates, is_basis, joined_basis, member_count, remainder_of

START = [width_at(0), size_at(1)]
# Widths and sizes with so few vectors that all of them can be searched.
SMALL = ((1, 1), (2, 1), (3, 1), (4, 1), (1, 2), (2, 2), (3, 2), (1, 3), (2, 3), (1, 4))
LARGE = ((1, 40), (2, 17), (3, 8), (8, 5), (15, 25), (16, 1), (16, 3), (16, 40))


def some_lists(width, size):
    """Many tuples of few vectors: all pairs where there are not too many, and some longer ones."""
    vectors = brute.all_vectors(width, size)
    source = brute.seeded(width * 100 + size)
    if len(vectors) <= 16:
        yield from itertools.product(vectors, repeat=2)
    for many in range(6):
        for _ in range(30):
            yield brute.some_vectors(source, width, size, many)
            yield tuple(source.choice(vectors) for _ in range(many))


def recombined(source, width, vectors):
    """Other vectors with the same span: multiples of each are added to others, and some are repeated."""
    found = list(vectors)
    for _ in range(4 * len(found)):
        one, two = source.randrange(len(found)), source.randrange(len(found))
        if one != two:
            factor = source.randrange(2 ** width)
            found[one] = brute.plus(width, found[one], brute.times(width, found[two], factor))
    found += source.choices(found, k=2)
    source.shuffle(found)
    return tuple(found)


class Bases(unittest.TestCase):
    def test_one_basis_for_each_module(self):
        for width, size in ((1, 1), (2, 1), (3, 1), (4, 1), (1, 2), (2, 2), (1, 3)):
            vectors = brute.all_vectors(width, size)
            found = {}
            for many in range(size + 2):
                for value in itertools.product(vectors, repeat=many):
                    right = brute.is_basis(width, size, value)
                    self.assertIs(is_basis(width, size, value), right, (width, size, value))
                    if right:
                        self.assertNotIn(brute.span(width, size, value), found)
                        found[brute.span(width, size, value)] = value
            for value in itertools.product(vectors, repeat=3):
                self.assertEqual(basis_of(width, size, value), found[brute.span(width, size, value)])

    def test_basis_against_a_search(self):
        for width, size in SMALL:
            for vectors in some_lists(width, size):
                basis = basis_of(width, size, vectors)
                self.assertTrue(brute.is_basis(width, size, basis), (width, size, vectors, basis))
                self.assertEqual(brute.span(width, size, basis), brute.span(width, size, vectors))

    def test_order_and_repetition(self):
        for width, size in ((2, 2), (3, 3), (16, 2)):
            source = brute.seeded(width * 100 + size)
            for _ in range(20):
                vectors = brute.some_vectors(source, width, size, 4)
                basis = basis_of(width, size, vectors)
                for order in itertools.permutations(vectors):
                    self.assertEqual(basis_of(width, size, order), basis)
                self.assertEqual(basis_of(width, size, vectors + vectors), basis)
                self.assertEqual(basis_of(width, size, basis), basis)

    def test_recombined_vectors(self):
        for width, size in LARGE:
            source = brute.seeded(width * 100 + size)
            for many in (1, 2, 3, size, size + 3):
                vectors = brute.some_vectors(source, width, size, many)
                basis = basis_of(width, size, vectors)
                self.assertTrue(is_basis(width, size, basis))
                self.assertEqual(basis_of(width, size, recombined(source, width, vectors)), basis)
                # Each of the two is in the span of the other one.
                for vector in vectors:
                    self.assertTrue(contains(width, size, basis, vector))
                for vector in basis:
                    words = coordinates(width, size, vectors, vector)
                    self.assertEqual(brute.mixed(width, size, vectors, words), vector)

    def test_no_vectors(self):
        for width, size in ((1, 1), (4, 2), (16, 40)):
            self.assertEqual(basis_of(width, size, ()), ())
            self.assertEqual(basis_of(width, size, ((0,) * size,) * 3), ())
            self.assertIs(is_basis(width, size, ()), True)
            self.assertIs(is_basis(width, size, ((0,) * size,)), False)

    def test_long_chain(self):
        """Modules that grow as often as is possible: width * size times."""
        for width, size in ((16, 40), (3, 4)):
            vectors = []
            for power in reversed(range(width)):
                vectors += [tuple(2 ** power * (place == k) for place in range(size)) for k in range(size)]
            before = ()
            for many in range(0, len(vectors) + 1, 1 if size < 10 else 79):
                basis = basis_of(width, size, tuple(vectors[:many]))
                self.assertEqual(member_count(width, size, basis), 2 ** many)
                self.assertEqual(joined_basis(width, size, before, basis), basis)
                before = basis
            self.assertEqual(basis_of(width, size, tuple(vectors)), tuple(vectors[-size:]))

    def test_one_part_changed(self):
        """A changed basis is a basis exactly if it is the one of its own span."""
        for width, size in ((2, 3), (3, 3), (4, 2), (16, 4), (16, 40)):
            source = brute.seeded(width * 100 + size)
            for _ in range(3):
                basis = basis_of(width, size, brute.some_vectors(source, width, size, max(2, size // 2)))
                self.assertIs(is_basis(width, size, basis), True)
                for row in source.sample(range(len(basis)), min(len(basis), 2)):
                    for place in range(size):
                        for entry in (0, 1, 2, 3, 2 ** width // 2, basis[row][place] + 1, 2 ** width - 1):
                            vector = basis[row][:place] + (entry % 2 ** width,) + basis[row][place + 1:]
                            changed = basis[:row] + (vector,) + basis[row + 1:]
                            right = basis_of(width, size, changed) == changed
                            self.assertIs(is_basis(width, size, changed), right)
                            if (width, size) in ((2, 3), (3, 3), (4, 2)):
                                self.assertIs(brute.is_basis(width, size, changed), right)

    def test_part_of_another_kind(self):
        basis = ((2, 1, 5), (0, 8, 0), (0, 0, 8))
        basis = basis_of(4, 3, basis)
        self.assertIs(is_basis(4, 3, list(basis)), False)
        self.assertIs(is_basis(4, 3, basis[::-1]), False)
        self.assertIs(is_basis(4, 3, basis + ((0, 0, 0),)), False)
        self.assertIs(is_basis(4, 3, basis + basis[-1:]), False)
        for row, place in itertools.product(range(len(basis)), range(3)):
            for part in (True, False, None, "0", (0,), [0], {}, -1, 16, 10 ** 39):
                vector = basis[row][:place] + (part,) + basis[row][place + 1:]
                self.assertIs(is_basis(4, 3, basis[:row] + (vector,) + basis[row + 1:]), False)
        for row in range(len(basis)):
            for part in (True, None, "", (), [], list(basis[row]), basis[row][1:], basis[row] + (0,), {}):
                self.assertIs(is_basis(4, 3, basis[:row] + (part,) + basis[row + 1:]), False)

    def test_wrong_arguments(self):
        check_wrong(self, basis_of, (4, 2, ((6, 3), (0, 0))), START + [vectors_at(2)])
        check_is(self, is_basis, (4, 2, ((2, 1), (0, 8))), START, right_basis)

    def test_one_wrong_vector(self):
        vectors = ((1, 2), (3, 4), (5, 6))
        for place in range(3):
            for part in (True, None, "", (), (1,), (1, 2, 3), [1, 2], (1, 16), (-1, 2), (True, 1), {}):
                args = (4, 2, vectors[:place] + (part,) + vectors[place + 1:])
                check_call(self, basis_of, START + [vectors_at(2)], args)


class Remainders(unittest.TestCase):
    def test_against_a_search(self):
        for width, size in SMALL:
            for vectors in list(some_lists(width, size))[::7]:
                basis = basis_of(width, size, vectors)
                members = brute.span(width, size, vectors)
                bounds = [brute.pivot(row) for row in basis]
                low = [v for v in brute.all_vectors(width, size) if all(v[column] < top for column, top in bounds)]
                for vector in brute.all_vectors(width, size)[::3]:
                    minus = brute.times(width, vector, 2 ** width - 1)
                    expected = [other for other in low if brute.plus(width, other, minus) in members]
                    self.assertEqual([remainder_of(width, size, basis, vector)], expected)
                    self.assertIs(contains(width, size, basis, vector), vector in members)

    def test_large(self):
        for width, size in LARGE:
            source = brute.seeded(width * 100 + size)
            basis = basis_of(width, size, brute.some_vectors(source, width, size, max(1, size - 1)))
            for _ in range(10):
                inside = brute.mixed(width, size, basis, [source.randrange(2 ** width) for _ in basis])
                self.assertIs(contains(width, size, basis, inside), True)
                self.assertEqual(remainder_of(width, size, basis, inside), (0,) * size)
                vector = brute.some_vector(source, width, size)
                rest = remainder_of(width, size, basis, vector)
                minus = brute.times(width, rest, 2 ** width - 1)
                self.assertTrue(all(rest[column] < top for column, top in map(brute.pivot, basis)))
                self.assertTrue(contains(width, size, basis, brute.plus(width, vector, minus)))
                self.assertEqual(remainder_of(width, size, basis, brute.plus(width, vector, inside)), rest)
                self.assertIs(contains(width, size, basis, vector), not any(rest))

    def test_no_basis(self):
        self.assertEqual(remainder_of(4, 2, (), (7, 0)), (7, 0))
        self.assertEqual((contains(4, 2, (), (7, 0)), contains(4, 2, (), (0, 0))), (False, True))

    def test_wrong_arguments(self):
        checks = START + [basis_at(2), vector_at(3)]
        check_wrong(self, remainder_of, (4, 2, ((2, 1), (0, 8)), (7, 4)), checks)
        check_wrong(self, contains, (4, 2, ((2, 1), (0, 8)), (7, 4)), checks)


class Coordinates(unittest.TestCase):
    def check(self, width, size, vectors, vector, inside):
        words = coordinates(width, size, vectors, vector)
        if not inside:
            self.assertIsNone(words)
            return
        self.assertIs(type(words), tuple)
        self.assertEqual(len(words), len(vectors))
        self.assertTrue(all(brute.is_word(width, word) for word in words))
        self.assertEqual(brute.mixed(width, size, vectors, words), vector)

    def test_against_a_search(self):
        for width, size in SMALL:
            for vectors in list(some_lists(width, size))[::5]:
                members = brute.span(width, size, vectors)
                for vector in brute.all_vectors(width, size)[::3]:
                    self.check(width, size, vectors, vector, vector in members)

    def test_many_vectors(self):
        for width, size, many in ((16, 40, 300), (16, 3, 500), (1, 40, 200), (8, 20, 641)):
            source = brute.seeded(width * 100 + size)
            vectors = tuple(brute.times(width, v, 4) for v in brute.some_vectors(source, width, size - 1, many))
            vectors = tuple(v + (0,) for v in vectors)
            for _ in range(3):
                words = [source.randrange(2 ** width) for _ in vectors]
                self.check(width, size, vectors, brute.mixed(width, size, vectors, words), True)
                self.check(width, size, vectors, (0,) * (size - 1) + (1,), False)
            if width > 1:
                self.check(width, size, vectors, (2,) + (0,) * (size - 1), False)

    def test_many_vectors_that_are_all_needed(self):
        """Vectors of which each one, as they stand, makes the span grow."""
        width, size = 16, 40
        source = brute.seeded(1)
        vectors = []
        for power in reversed(range(width)):
            for place in reversed(range(size)):
                tail = brute.some_vector(source, width, size - place - 1)
                vectors.append((0,) * place + (2 ** power,) + tuple(2 ** power * x % 2 ** width for x in tail))
        vectors = tuple(vectors)
        self.check(width, size, vectors, brute.some_vector(source, width, size), True)
        self.check(width, size, vectors[:-1], (1,) + (0,) * (size - 1), False)
        self.check(width, size, vectors[:-size], (2,) * size, True)
        self.check(width, size, vectors[:-size], (2,) * (size - 1) + (1,), False)

    def test_no_vectors(self):
        self.assertEqual(coordinates(4, 2, (), (0, 0)), ())
        self.assertIsNone(coordinates(4, 2, (), (0, 1)))
        self.check(4, 2, ((0, 0), (0, 0)), (0, 0), True)

    def test_wrong_arguments(self):
        check_wrong(self, coordinates, (4, 2, ((6, 3), (0, 8)), (1, 0)), START + [vectors_at(2), vector_at(3)])


class Joined(unittest.TestCase):
    def test_against_a_search(self):
        for width, size in SMALL:
            lists = list(some_lists(width, size))[::11]
            for one, two, three in zip(lists, lists[1:], lists[2:]):
                bases = [basis_of(width, size, vectors) for vectors in (one, two, three)]
                self.assertEqual(joined_basis(width, size, bases[0]), bases[0])
                self.assertEqual(joined_basis(width, size, *bases[:2]), basis_of(width, size, one + two))
                joined = joined_basis(width, size, *bases)
                self.assertEqual(joined, joined_basis(width, size, *bases[::-1]))
                self.assertTrue(brute.is_basis(width, size, joined))
                self.assertEqual(brute.span(width, size, joined), brute.span(width, size, one + two + three))

    def test_large(self):
        source = brute.seeded(5)
        parts = [brute.some_vectors(source, 16, 40, 12) for _ in range(3)]
        bases = [basis_of(16, 40, vectors) for vectors in parts]
        self.assertEqual(joined_basis(16, 40, *bases), basis_of(16, 40, parts[2] + parts[0] + parts[1]))

    def test_none(self):
        for width, size in ((1, 1), (16, 40)):
            self.assertEqual(joined_basis(width, size), ())
            self.assertEqual(joined_basis(width, size, (), ()), ())

    def test_wrong_arguments(self):
        check_wrong(self, joined_basis, (4, 2), START)
        check_wrong(self, joined_basis, (4, 2, ((2, 1), (0, 8))), START + [basis_at(2)])
        both = (4, 2, ((2, 1), (0, 8)), ((1, 0),))
        check_wrong(self, joined_basis, both, START + [basis_at(2), basis_at(3)])

    def test_vectors_that_are_no_basis(self):
        for value in (((6, 3),), ((2, 1),), ((0, 8), (2, 1)), ((0, 0),), ((1, 9), (0, 8)), [], ((1, 0, 0),)):
            checks = [lambda args: (InvalidBasis,)]
            check_call(self, joined_basis, checks, (4, 2, ((1, 0),), value))
            check_call(self, member_count, checks, (4, 2, value))
            check_call(self, contains, checks, (4, 2, value, ()))
            check_call(self, remainder_of, checks, (4, 2, value, ()))
        check_call(self, contains, [lambda args: (InvalidVector,)], (4, 2, ((1, 0),), (1,)))


class Counts(unittest.TestCase):
    def test_against_counting(self):
        for width, size in SMALL:
            for vectors in some_lists(width, size):
                count = member_count(width, size, basis_of(width, size, vectors))
                self.assertEqual(count, len(brute.span(width, size, vectors)))

    def test_ends(self):
        for width, size in ((1, 1), (4, 2), (16, 40)):
            self.assertEqual(member_count(width, size, ()), 1)
            whole = tuple(tuple(int(place == k) for place in range(size)) for k in range(size))
            self.assertEqual(member_count(width, size, whole), 2 ** (width * size))

    def test_wrong_arguments(self):
        check_wrong(self, member_count, (4, 2, ((2, 1), (0, 8))), START + [basis_at(2)])


class Examples(unittest.TestCase):
    def test_bases(self):
        self.assertEqual(basis_of(2, 2, ((2, 1),)), ((2, 1), (0, 2)))
        self.assertEqual(basis_of(4, 2, ((1, 7), (1, 1))), ((1, 1), (0, 2)))
        self.assertEqual(basis_of(4, 2, ((6, 3), (0, 0))), ((2, 1), (0, 8)))
        self.assertEqual(brute.span(2, 2, ((2, 1), (0, 2))), {(0, 0), (2, 1), (0, 2), (2, 3)})

    def test_others(self):
        self.assertEqual(remainder_of(4, 2, ((2, 1), (0, 8)), (7, 4)), (1, 1))
        self.assertIsNone(coordinates(4, 2, ((6, 3), (0, 8)), (1, 0)))
        self.assertEqual(member_count(4, 2, ((2, 1), (0, 8))), 16)
        self.assertEqual(joined_basis(4, 2), ())
