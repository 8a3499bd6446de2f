"""[8.1], [8.2], and [0.1] to [0.5] and [0.9] of the functions on transforms."""
import unittest

from tests import brute, plain
from tests.checks import check_all, name_at, point_at, point_junk, program_at
from tests.examples import P, Q, R, S
from tests.making import CALLS, CHAIN, DOUBLE, ENDLESS, GROWING, KNOWN, SWAPS, WIDE, some_programs
from wordlaws.flow.growth import Growth
from wordlaws.flow.transforms import does_return, outcome_basis, spanning_pieces, transform_bases, transform_basis
from wordlaws.modules.bases import basis_of, is_basis
from wordlaws.runs.trails import outcome_matrix

SMALL = tuple(program for width in (1, 2, 3) for program in some_programs(45, width))
LARGE = tuple(program for width in (4, 8, 16) for program in some_programs(25, width, 14))


def matrix_size(program, name):
    return plain.state_size(program, name) * plain.entry_size(program, name)


def outcome_size(program, name):
    return len(plain.outcome_columns(program, name)) * plain.entry_size(program, name)


def folded(program, name, vector):
    many = plain.entry_size(program, name)
    return tuple(vector[start:start + many] for start in range(0, len(vector), many))


class Least:
    """The least modules with the properties of [8.2]: in each round all rules are applied to all bases."""

    def __init__(self, program):
        self.program = program
        self.bases = {point: () for point in plain.points(program)}
        for name in plain.names(program):
            self.join((name, (0,)), [plain.first_matrix(program, name)])
        before = None
        while before != self.bases:
            before = dict(self.bases)
            outcomes = {name: self.outcomes(name) for name in plain.names(program)}
            for point in plain.points(program):
                for matrix in self.matrices(point):
                    for place, behind in plain.matrices_behind(program, point, matrix, outcomes):
                        self.join((point[0], place), [behind])

    def join(self, point, matrices):
        vectors = self.bases[point] + tuple(map(plain.flat, matrices))
        self.bases[point] = basis_of(self.program[0], matrix_size(self.program, point[0]), vectors)

    def matrices(self, point):
        return [folded(self.program, point[0], vector) for vector in self.bases[point]]

    def outcomes(self, name):
        matrices = self.matrices((name, plain.exit_of(self.program, name)))
        return [plain.outcome(self.program, name, matrix) for matrix in matrices]


class Transforms(unittest.TestCase):
    def check_bases(self, program, bases):
        """All functions return these bases."""
        self.assertEqual(transform_bases(program), bases)
        self.assertEqual(list(transform_bases(program)), plain.points(program))
        for point in plain.points(program)[::3]:
            self.assertEqual(transform_basis(program, point), bases[point])
        for name in plain.names(program):
            basis = bases[(name, plain.exit_of(program, name))]
            outcomes = [plain.outcome(program, name, folded(program, name, vector)) for vector in basis]
            expected = basis_of(program[0], outcome_size(program, name), tuple(map(plain.flat, outcomes)))
            self.assertEqual(outcome_basis(program, name), expected)
            self.assertIs(does_return(program, name), expected != ())

    def test_against_all_matrices(self):
        done = 0
        for program in SMALL + (P, R, SWAPS, DOUBLE):
            matrices = plain.all_matrices(program, 1500)
            if matrices is not None:
                done += 1
                self.check_bases(program, {
                    point: basis_of(program[0], matrix_size(program, point[0]), tuple(map(plain.flat, found)))
                    for point, found in matrices.items()
                })
        self.assertGreater(done, 100)

    def test_against_all_entries(self):
        """From each entry of each procedure, called or not, the transforms span what the states span."""
        programs = [program for program in SMALL if plain.state_bits(program) <= 6]
        self.assertGreater(len(programs), 60)
        for program in programs:
            reached = plain.reached_from_anywhere(program)
            for point, basis in transform_bases(program).items():
                size = plain.state_size(program, point[0])
                matrices = [folded(program, point[0], vector) for vector in basis]
                states = {}
                for entry, state in reached.pairs[point]:
                    states.setdefault(entry, []).append(state)
                for entry in plain.all_entries(program, point[0]):
                    column = tuple((word,) for word in entry)
                    products = tuple(plain.flat(plain.times(program[0], matrix, column)) for matrix in matrices)
                    found = tuple(states.get(entry, ()))
                    self.assertEqual(basis_of(program[0], size, products), basis_of(program[0], size, found))

    def test_against_the_least_modules(self):
        for program in KNOWN + SMALL[::4] + LARGE:
            bases = Least(program).bases
            self.check_bases(program, bases)
            for point, basis in bases.items():
                self.assertTrue(is_basis(program[0], matrix_size(program, point[0]), basis))

    def test_procedures_that_are_never_called(self):
        self.assertEqual(transform_basis(ENDLESS, ("idle", (0,))),
                         ((1, 0, 0, 0, 1, 0, 0, 0, 1, 0, 0, 0),))
        self.assertEqual(outcome_basis(ENDLESS, "idle")[0][:3], (1, 0, 0))
        self.assertIs(does_return(ENDLESS, "idle"), True)

    def test_procedures_that_never_return(self):
        for name in ("lost", "never"):
            self.assertEqual(outcome_basis(ENDLESS, name), ())
            self.assertIs(does_return(ENDLESS, name), False)
            self.assertEqual(spanning_pieces(ENDLESS, name)[1], ())
        self.assertIs(does_return(ENDLESS, "main"), True)
        self.assertEqual(transform_basis(ENDLESS, ("main", (1, 0, 1))), ())
        self.assertEqual(transform_basis(ENDLESS, ("main", (1, 1, 2))), ())

    def test_two_calls_in_a_row(self):
        # In CHAIN the last procedure multiplies by 1 or 3; each one before it calls twice, and adds one between.
        self.assertEqual(outcome_basis(CHAIN, "e"), ((1, 0, 0, 1), (0, 0, 0, 2)))
        self.assertEqual(outcome_basis(CHAIN, "d"), ((1, 0, 1, 1), (0, 0, 2, 0), (0, 0, 0, 2)))
        self.assertEqual(outcome_basis(DOUBLE, "f"), ((1, 0, 0, 1), (0, 0, 1, 0)))

    def test_entry_with_a_repeat(self):
        body = (("repeat", (("set", "x", (1, 1)),)),)
        program = (4, (), (("main", (), ("x",), (), body),))
        self.assertEqual(transform_basis(program, ("main", (0,))), ((1, 0), (0, 1)))
        self.assertEqual(transform_basis(program, ("main", (0, 0, 0))), ((1, 0), (0, 1)))

    def test_modules_that_grow_often(self):
        """However often a module has grown, few of the matrices are left, and they span all of them."""
        for width, size in ((16, 2), (16, 9), (5, 25)):
            growth = Growth(width)
            vectors = []
            for power in reversed(range(width)):
                for place in reversed(range(size)):
                    tail = brute.some_vector(brute.seeded(place), width, size - place - 1)
                    vector = (0,) * place + tuple(2 ** power * word % 2 ** width for word in (1,) + tail)
                    vectors.append(vector)
                    self.assertIs(growth.takes((vector,), len(vectors)), True)
                    self.assertIs(growth.takes((vector,), None), False)
                    self.assertLessEqual(len(growth.few), 2 * size)
            self.assertEqual((len(growth.found), growth.sources), (width * size, list(range(1, width * size + 1))))
            basis = basis_of(width, size, tuple(vectors))
            self.assertEqual(growth.basis_now(), basis)
            self.assertEqual(basis_of(width, size, tuple(growth.found[index][0] for index in growth.few)), basis)
        for program in (GROWING, CALLS):
            self.assertEqual(transform_bases(program), Least(program).bases)

    def test_wide_words(self):
        x = (("set", "x", (0, 1)),)
        for width in (1, 2, 15, 16):
            for factor in (0, 1, 2, 3, 2 ** width - 1):
                body = (("input", "x"),) + (("set", "x", (0, factor % 2 ** width)),) * 12 + x
                program = (width, (), (("main", (), ("x",), (), body),))
                word = pow(factor, 12, 2 ** width)
                expected = basis_of(width, 2, ((1, 0), (1, word)))
                self.assertEqual(transform_basis(program, ("main", (14,))), expected)
        self.assertEqual(len(transform_bases(WIDE)), len(plain.points(WIDE)))

    def test_wrong_arguments(self):
        check_all(self, transform_basis, (P, ("f", (1,))), [program_at(0), point_at(1)], point_junk())
        check_all(self, transform_bases, (R,), [program_at(0)])
        for function in (outcome_basis, spanning_pieces, does_return):
            check_all(self, function, (P, "f"), [program_at(0), name_at(1)], ["f", "g", "main", "ff", ("f",), ["f"]])


class Pieces(unittest.TestCase):
    def test_they_span_the_outcomes(self):
        for program in KNOWN + SMALL + LARGE:
            for name in plain.names(program):
                pieces, numbers = spanning_pieces(program, name)
                self.assertTrue(plain.are_pieces(program, pieces))
                self.assertEqual(numbers, tuple(sorted(set(numbers))))
                vectors = []
                for number in numbers:
                    self.assertEqual(pieces[number][0], name)
                    vectors.append(plain.flat(outcome_matrix(program, (pieces, ((),)), number)))
                basis = basis_of(program[0], outcome_size(program, name), tuple(vectors))
                self.assertEqual(basis, outcome_basis(program, name))
                self.assertEqual(numbers == (), not does_return(program, name))

    def test_by_plain_steps(self):
        """What the pieces make of entries is what the outcome module says."""
        for program in SMALL[::5] + (P, DOUBLE, SWAPS):
            for name in plain.names(program):
                pieces, numbers = spanning_pieces(program, name)
                size = len(plain.outcome_columns(program, name))
                outcomes = [folded(program, name, vector) for vector in outcome_basis(program, name)]
                for entry in plain.all_entries(program, name)[:16]:
                    found = []
                    for number in numbers:
                        point, state = plain.way_end(program, name, (pieces, pieces[number][1]), entry)
                        self.assertEqual(point, (name, plain.exit_of(program, name)))
                        found.append(tuple(state[at] for at in plain.outcome_columns(program, name)))
                    expected = [tuple(brute.dot(program[0], row, entry) for row in matrix) for matrix in outcomes]
                    self.assertEqual(basis_of(program[0], size, tuple(found)), basis_of(program[0], size, tuple(expected)))


class Examples(unittest.TestCase):
    def test_bases(self):
        self.assertEqual(transform_basis(P, ("f", (1,))), ((1, 0, 0, 1), (0, 0, 2, 0)))
        self.assertEqual(outcome_basis(P, "f"), ((1, 0, 0, 1), (0, 0, 2, 0)))
        self.assertEqual(outcome_basis(R, "stop"), ())
        self.assertEqual(transform_basis(R, ("stop", (1,))), ((1, 0, 3, 0),))

    def test_others(self):
        self.assertIs(does_return(P, "f"), True)
        self.assertIs(does_return(R, "main"), False)
        self.assertIs(does_return(Q, "main"), True)
        self.assertEqual(list(transform_bases(S))[0], ("longname", (0,)))
