"""[10.1], and [0.1] to [0.5] and [0.9] of the functions on invariants."""
import unittest

from tests import brute, plain
from tests.checks import changed_parts, check_all, is_row, point_at, point_junk, program_at, row_at, trail_junk
from tests.examples import P, Q, R
from tests.making import CHAIN, DOUBLE, ENDLESS, KNOWN, NESTED, SWAPS, some_programs
from tests.test_trails import PIECES, some_trails
from tests.wrong import check_call, much_junk
from wordlaws.flow.states import state_bases
from wordlaws.invariants.invariants import breaking_trail, invariant_basis, is_breaking_trail, is_invariant
from wordlaws.modules.bases import basis_of
from wordlaws.modules.duals import annihilator
from wordlaws.runs.trails import is_trail, trail_length, trail_state

SMALL = tuple(program for width in (1, 2, 3) for program in some_programs(60, width))
LARGE = tuple(program for width in (4, 8, 16) for program in some_programs(20, width, 14))
TINY = tuple(program for program in SMALL if plain.state_bits(program) <= 3)
ROWS = [(0, 4), (0, 8), (1, 0), (16, 0), (0,), (0, 4, 0), [0, 4], (0, True), (True, 0), (0, None), (-1, 0), (15, 15)]


def some_rows(program, name, number, many):
    source = brute.seeded(number)
    return list(brute.some_vectors(source, program[0], plain.state_size(program, name), many))


def breaks(program, point, row, value):
    """Whether the value is a trail to the point on whose state, by plain steps, the row is not 0."""
    if not plain.is_trail(program, value):
        return False
    reached, state = plain.trail_end(program, value)
    return reached == point and brute.dot(program[0], row, state) != 0


class Invariants(unittest.TestCase):
    def check_row(self, program, point, row, right):
        """Whether the row is an invariant is known; if it is none, the trail shows that."""
        self.assertIs(is_invariant(program, point, row), right)
        trail = breaking_trail(program, point, row)
        if right:
            self.assertIsNone(trail)
            return
        self.assertTrue(plain.is_trail(program, trail))
        self.assertIs(is_trail(program, trail), True)
        self.assertIs(is_breaking_trail(program, point, row, trail), True)
        reached, state = trail_state(program, trail)
        self.assertEqual(reached, point)
        self.assertNotEqual(brute.dot(program[0], row, state), 0)
        if trail_length(program, trail) < 300:
            self.assertTrue(breaks(program, point, row, trail))

    def test_all_rows(self):
        self.assertGreater(len(TINY), 25)
        for program in TINY[::2]:
            reached = plain.reached_by_runs(program)
            for point in plain.points(program):
                size = plain.state_size(program, point[0])
                rights = set()
                for row in brute.all_vectors(program[0], size):
                    right = not any(brute.dot(program[0], row, state) for state in reached.states(point))
                    self.check_row(program, point, row, right)
                    if right:
                        rights.add(row)
                basis = invariant_basis(program, point)
                self.assertTrue(brute.is_basis(program[0], size, basis))
                self.assertEqual(brute.span(program[0], size, basis), rights)

    def test_against_all_states(self):
        for number, program in enumerate(SMALL[::2] + (P, R, NESTED, SWAPS)):
            reached = plain.reached_by_runs(program)
            for point in plain.points(program):
                size = plain.state_size(program, point[0])
                states = basis_of(program[0], size, tuple(reached.states(point)))
                basis = invariant_basis(program, point)
                self.assertEqual(basis, annihilator(program[0], size, states))
                for row in basis[:1] + tuple(some_rows(program, point[0], number, 1)):
                    right = not any(brute.dot(program[0], row, state) for state in reached.states(point))
                    self.check_row(program, point, row, right)

    def test_large(self):
        for number, program in enumerate(KNOWN + LARGE[::4]):
            bases = state_bases(program)
            for point in plain.points(program)[::2]:
                size = plain.state_size(program, point[0])
                basis = invariant_basis(program, point)
                self.assertEqual(basis, annihilator(program[0], size, bases[point]))
                self.assertEqual(len(basis) == size and basis[0][0] == 1, bases[point] == ())
                for row in basis:
                    self.check_row(program, point, row, True)
                    half = brute.times(program[0], row, 2 ** (program[0] - 1))
                    self.check_row(program, point, half, True)
                for row in some_rows(program, point[0], number, 2):
                    right = not any(brute.dot(program[0], row, state) for state in bases[point])
                    self.check_row(program, point, row, right)

    def test_unreachable_points(self):
        for program, point in ((R, ("main", (2,))), (ENDLESS, ("idle", (0,))), (ENDLESS, ("never", (1,)))):
            size = plain.state_size(program, point[0])
            self.assertEqual(invariant_basis(program, point), tuple(plain.first_matrix((1, (), (
                ("main", tuple("abcde"[:size - 1]), (), (), ()),)), "main")))
            for row in some_rows(program, point[0], 1, 5) + [(1,) + (0,) * (size - 1)]:
                self.check_row(program, point, row, True)

    def test_wrong_arguments(self):
        checks = [program_at(0), point_at(1), row_at(2)]
        check_all(self, invariant_basis, (P, ("f", (1,))), checks[:2], point_junk())
        for function in (is_invariant, breaking_trail):
            check_all(self, function, (P, ("main", (1,)), (0, 4)), checks, ROWS)
        for row in much_junk():
            if not is_row(Q, "main", row):
                check_call(self, is_invariant, checks, (Q, ("main", (3,)), row))


class Trails(unittest.TestCase):
    def check(self, program, point, row, value):
        self.assertIs(is_breaking_trail(program, point, row, value), breaks(program, point, row, value), value)

    def test_trails_of_the_tests(self):
        """Trails with pieces that are not used and pieces that stand twice; also for other points and rows."""
        rights = 0
        for number, program in enumerate(KNOWN + SMALL[::3]):
            points = plain.points(program)
            for trail in some_trails(program, number, 3, 30):
                end, state = plain.trail_end(program, trail)
                for row in some_rows(program, end[0], number, 4) + [(1,) + (0,) * (len(state) - 1)]:
                    rights += breaks(program, end, row, trail)
                    self.check(program, end, row, trail)
                for point in points[::4]:
                    if point[0] == end[0]:
                        self.check(program, point, row, trail)
        self.assertGreater(rights, 300)

    def test_changed_trails(self):
        rights = 0
        for number, program in enumerate((P, R, DOUBLE, SWAPS, NESTED) + SMALL[::20]):
            for trail in some_trails(program, number, 2, 14):
                point, state = plain.trail_end(program, trail)
                for value in changed_parts(trail, (0, 1, None, ()) + trail[0][:1]):
                    for row in ((1,) + (0,) * (len(state) - 1), some_rows(program, point[0], number, 1)[0]):
                        rights += breaks(program, point, row, value)
                        self.check(program, point, row, value)
        self.assertGreater(rights, 50)

    def test_other_frames(self):
        """The same state by a piece, and the same place in another frame."""
        one, two = (PIECES, ((1,),)), (PIECES + (("f", (1, 0, 1, 0)),), ((2,),))
        for trail, right in ((one, True), (two, True), ((PIECES, ((0,),)), False), ((PIECES, ((),)), False),
                             (((), ((), (0, 0))), False)):
            self.assertIs(is_breaking_trail(P, ("main", (1,)), (0, 2), trail), right)
        for many, right in ((0, False), (1, True), (2, True)):
            frames = ((),) + ((1, 0),) * many + ((0, 0),)
            self.assertIs(is_breaking_trail(P, ("f", (1,)), (0, 1), ((), frames)), right)
        self.assertIs(is_breaking_trail(P, ("f", (1,)), (0, 1), (PIECES, ((), (1, 0, 0, 0)))), True)

    def test_trails_that_cannot_be_executed(self):
        many = 3000
        pieces = (("f", (0, 0, 0)),) + tuple(("f", (1, k, k, 0)) for k in range(many))
        for number, word in ((0, 1), (3, 8), (7, 128), (8, 0), (many, 0)):
            trail = (pieces, ((number, 0),))
            for row in ((0, 0, 1), (0, 1, 0), (0, 2, 0), (1, 0, 0)):
                right = sum(x * y for x, y in zip(row, (1, word, word))) % 256 != 0
                self.assertIs(is_breaking_trail(DOUBLE, ("main", (2,)), row, trail), right)
        self.assertGreater(trail_length(DOUBLE, trail), 10 ** 800)

    def test_wrong_arguments(self):
        checks = [program_at(0), point_at(1), row_at(2)]
        valid = (P, ("main", (1,)), (0, 4), (PIECES, ((1,),)))
        check_all(self, is_breaking_trail, valid, checks, trail_junk(), breaks)


class Examples(unittest.TestCase):
    def test_invariants(self):
        self.assertEqual(invariant_basis(P, ("main", (1,))), ((0, 8),))
        self.assertEqual(invariant_basis(Q, ("main", (3,))), ((0, 1, 255),))
        self.assertEqual(invariant_basis(R, ("main", (2,))), ((1, 0, 0), (0, 1, 0), (0, 0, 1)))
        self.assertIs(is_invariant(Q, ("main", (2, 0, 1)), (1, 255, 1)), True)

    def test_chain(self):
        self.assertIsNone(breaking_trail(CHAIN, ("main", (0,)), (0, 1)))
        self.assertIsNotNone(breaking_trail(CHAIN, ("main", (3,)), (0, 1)))
