"""[12.1], and [0.1] to [0.5] and [0.9] of the functions on facts."""
import itertools
import unittest

from tests import brute, plain
from tests.checks import check_all, is_point, is_row, point_at, point_junk, program_at, row_at
from tests.examples import P, Q, R
from tests.making import CHAIN, DOUBLE, ENDLESS, KNOWN, NESTED, SWAPS, WIDE, some_programs
from tests.test_invariants import ROWS, some_rows
from tests.wrong import check_call, few_junk, much_junk
from wordlaws.errors import InvalidRow, UnknownPoint
from wordlaws.facts.facts import are_equal, common_invariants, differing_trails, endless_procedures, equal_classes
from wordlaws.facts.facts import same_bits, unreachable_points
from wordlaws.flow.states import is_reachable, state_basis
from wordlaws.flow.transforms import does_return
from wordlaws.invariants.invariants import is_invariant
from wordlaws.modules.bases import basis_of
from wordlaws.modules.duals import annihilator
from wordlaws.runs.trails import is_trail, trail_state

SMALL = tuple(program for width in (1, 2, 3) for program in some_programs(40, width)) + (P, R, NESTED, SWAPS)
TINY = tuple(
    program for width in (1, 2, 3) for program in some_programs(60, width) if plain.state_bits(program) <= 3
)
LARGE = KNOWN + tuple(program for width in (8, 16) for program in some_programs(12, width, 14))


def values_of(program, row, states):
    return {brute.dot(program[0], row, state) for state in states}


def bits_of(width, values):
    """The greatest count, and the common value, word for word."""
    if not values:
        return width, 0
    count = max(count for count in range(width + 1) if len({value % 2 ** count for value in values}) == 1)
    return count, min(values) % 2 ** count


def classes_of(program, rows, states):
    found = []
    for index, row in enumerate(rows):
        for members in found:
            other = rows[members[0]]
            if all(brute.dot(program[0], row, state) == brute.dot(program[0], other, state) for state in states):
                members.append(index)
                break
        else:
            found.append([index])
    return tuple(map(tuple, found))


class Places(unittest.TestCase):
    def test_unreachable_points(self):
        rights = 0
        for program in SMALL:
            reached = plain.reached_by_runs(program)
            found = tuple(point for point in plain.points(program) if not reached.states(point))
            self.assertEqual(unreachable_points(program), found)
            rights += len(found)
        self.assertGreater(rights, 100)

    def test_endless_procedures(self):
        rights = 0
        for program in TINY + (R, P):
            reached = plain.reached_from_anywhere(program)
            found = tuple(
                name for name in plain.names(program) if not reached.states((name, plain.exit_of(program, name)))
            )
            self.assertEqual(endless_procedures(program), found)
            rights += len(found)
        self.assertGreater(rights, 10)

    def test_large(self):
        for program in LARGE:
            points = tuple(point for point in plain.points(program) if not is_reachable(program, point))
            self.assertEqual(unreachable_points(program), points)
            names = tuple(name for name in plain.names(program) if not does_return(program, name))
            self.assertEqual(endless_procedures(program), names)

    def test_examples(self):
        self.assertEqual(unreachable_points(R), (("main", (2,)), ("stop", (2,))))
        self.assertEqual((endless_procedures(R), unreachable_points(P)), (("main", "stop"), ()))
        self.assertEqual(endless_procedures(ENDLESS), ("lost", "never"))

    def test_wrong_arguments(self):
        for function in (unreachable_points, endless_procedures):
            check_all(self, function, (P,), [program_at(0)], (P[:2], list(P), (0,) + P[1:]))


class Bits(unittest.TestCase):
    def check(self, program, point, row, expected):
        """The pair is known; the two trails show that it cannot be greater."""
        count, word = expected
        self.assertEqual(same_bits(program, point, row), expected)
        trails = differing_trails(program, point, row)
        if count == program[0]:
            self.assertIsNone(trails)
            return
        self.assertEqual((type(trails), len(trails)), (tuple, 2))
        values = []
        for trail in trails:
            self.assertTrue(plain.is_trail(program, trail) and is_trail(program, trail))
            reached, state = trail_state(program, trail)
            self.assertEqual(reached, point)
            values.append(brute.dot(program[0], row, state))
            self.assertEqual(values[-1] % 2 ** count, word)
        self.assertNotEqual(values[0] % 2 ** (count + 1), values[1] % 2 ** (count + 1))

    def test_against_all_states(self):
        counts = set()
        for number, program in enumerate(SMALL[::2] + (P,)):
            reached = plain.reached_by_runs(program)
            for point in plain.points(program):
                size = plain.state_size(program, point[0])
                rows = some_rows(program, point[0], number, 2) + [(0,) * size, (1,) * size]
                for row in rows:
                    expected = bits_of(program[0], values_of(program, row, reached.states(point)))
                    self.check(program, point, row, expected)
                    counts.add((program[0], expected[0]))
        self.assertLessEqual({(width, count) for width in (1, 2, 3) for count in range(width + 1)}, counts)

    def test_all_rows(self):
        for program in TINY[::5]:
            reached = plain.reached_by_runs(program)
            for point in plain.points(program)[::2]:
                for row in brute.all_vectors(program[0], plain.state_size(program, point[0])):
                    self.check(program, point, row, bits_of(program[0], values_of(program, row, reached.states(point))))

    def test_wide_words(self):
        """The trails show that the count is not too small; that it is not too great, an invariant shows."""
        counts = set()
        for number, program in enumerate((WIDE, CHAIN, DOUBLE, Q) + LARGE[-24:]):
            for point in plain.points(program)[::3]:
                size = plain.state_size(program, point[0])
                for row in some_rows(program, point[0], number, 2) + [(7,) + (0,) * (size - 1)]:
                    count, word = same_bits(program, point, row)
                    self.check(program, point, row, (count, word))
                    self.assertTrue(0 <= word < 2 ** count)
                    same = brute.times(program[0], brute.plus(program[0], row, (-word,) + (0,) * (size - 1)),
                                       2 ** (program[0] - count))
                    self.assertTrue(is_invariant(program, point, same))
                    counts.add(count)
        self.assertGreater(len(counts), 12)

    def test_one_state(self):
        """At the beginning of main there is one state at most, so each row has all its bits there."""
        for word in (0, 1, 255):
            self.check(Q, ("main", (0,)), (word, 3, 5), (8, word))
            self.check(Q, ("main", (3,)), (word, 0, 0), (8, word))

    def test_sixteen_bits(self):
        for shift in range(17):
            program = (16, (), (("main", (), ("x",), (), (
                ("choose", ((), (("set", "x", (2 ** shift % 2 ** 16, 0)),))),
            )),))
            self.check(program, ("main", (1,)), (5, 1), (shift, 5 % 2 ** shift))
            self.check(program, ("main", (1,)), (5, 2), (min(shift + 1, 16), 5 % 2 ** (shift + 1)))

    def test_unreachable(self):
        for program, point in ((R, ("main", (2,))), (R, ("stop", (2,))), (ENDLESS, ("idle", (0,)))):
            for row in some_rows(program, point[0], 1, 5):
                self.check(program, point, row, (program[0], 0))

    def test_examples(self):
        self.assertEqual(same_bits(P, ("main", (1,)), (0, 1)), (1, 0))
        self.assertEqual(same_bits(Q, ("main", (2, 0, 1)), (0, 1, 255)), (8, 1))
        self.assertEqual(same_bits(R, ("stop", (0,)), (2, 4)), (2, 2))
        self.assertIsNone(differing_trails(Q, ("main", (3,)), (7, 1, 255)))

    def test_wrong_arguments(self):
        checks = [program_at(0), point_at(1), row_at(2)]
        for function in (same_bits, differing_trails):
            check_all(self, function, (P, ("main", (1,)), (0, 4)), checks, ROWS)
            check_all(self, function, (P, ("main", (1,)), (0, 4)), checks, point_junk())


def rows_from(place):
    """The arguments from this place on are rows of the procedure of the point."""
    def check(args):
        return (InvalidRow,) if any(not is_row(args[0], args[1][0], row) for row in args[place:]) else None
    return check


class Equality(unittest.TestCase):
    def test_against_all_states(self):
        for number, program in enumerate(SMALL[::4]):
            reached = plain.reached_by_runs(program)
            for point in plain.points(program)[::2]:
                states = reached.states(point)
                rows = some_rows(program, point[0], number, 4)
                rows = rows + rows[:2] + [(0,) * len(rows[0]), (1,) + (0,) * (len(rows[0]) - 1)]
                classes = classes_of(program, rows, states)
                self.assertEqual(equal_classes(program, point, *rows), classes)
                self.assertIs(are_equal(program, point, *rows), len(classes) == 1)
                for pair in itertools.combinations(range(len(rows)), 2):
                    right = any(set(pair) <= set(members) for members in classes)
                    self.assertIs(are_equal(program, point, *(rows[at] for at in pair)), right)

    def test_all_pairs_of_rows(self):
        for program in TINY[::9]:
            reached = plain.reached_by_runs(program)
            for point in plain.points(program)[::2]:
                rows = brute.all_vectors(program[0], plain.state_size(program, point[0]))
                classes = classes_of(program, rows, reached.states(point))
                self.assertEqual(equal_classes(program, point, *rows), classes)

    def test_no_rows_and_one_row(self):
        for program, point in ((Q, ("main", (3,))), (R, ("main", (2,))), (P, ("f", (0, 1, 0)))):
            row = (1,) * plain.state_size(program, point[0])
            self.assertIs(are_equal(program, point), True)
            self.assertEqual(equal_classes(program, point), ())
            self.assertIs(are_equal(program, point, row), True)
            self.assertEqual(equal_classes(program, point, row), ((0,),))
            self.assertEqual(equal_classes(program, point, row, row, row), ((0, 1, 2),))

    def test_many_rows(self):
        rows = [(k % 7, k % 3, -k % 3 % 256) for k in range(2000)]
        classes = equal_classes(Q, ("main", (3,)), *rows)
        keys = [(k % 7, (k % 3 + -k % 3) % 256) for k in range(2000)]
        found = {}
        for index, key in enumerate(keys):
            found.setdefault(key, []).append(index)
        self.assertEqual(classes, tuple(map(tuple, found.values())))

    def test_unreachable(self):
        rows = some_rows(R, "main", 3, 9)
        self.assertEqual(equal_classes(R, ("main", (2,)), *rows), (tuple(range(9)),))
        self.assertIs(are_equal(R, ("main", (2,)), *rows), True)

    def test_examples(self):
        rows = (0, 1, 0), (3, 0, 1), (0, 0, 1), (3, 1, 0)
        self.assertEqual(equal_classes(Q, ("main", (3,)), *rows), ((0, 2), (1, 3)))
        self.assertIs(are_equal(Q, ("main", (0,)), (0, 1, 0), (0, 0, 0)), True)
        self.assertIs(are_equal(Q, ("main", (3,)), (0, 1, 0), (0, 0, 0)), False)

    def test_wrong_arguments(self):
        checks = [program_at(0), point_at(1), rows_from(2)]
        for function in (are_equal, equal_classes):
            check_all(self, function, (P, ("main", (1,)), (0, 4), (1, 2)), checks, ROWS)
            for junk in much_junk() + ROWS:
                check_call(self, function, checks, (P, ("main", (1,)), (0, 4), (0, 4), (0, 4), junk, (0, 4)))
            for program, point in itertools.product(few_junk() + [P], repeat=2):
                check_call(self, function, checks, (program, point))


class Common(unittest.TestCase):
    def test_against_all_states(self):
        for number, program in enumerate(SMALL):
            reached = plain.reached_by_runs(program)
            source = brute.seeded(number)
            for name in plain.names(program):
                points = [point for point in plain.points(program) if point[0] == name]
                size = plain.state_size(program, name)
                for many in (0, 1, 2, 5):
                    first, *others = source.choices(points, k=1 + many)
                    states = set().union(*(reached.states(point) for point in [first] + others))
                    expected = annihilator(program[0], size, basis_of(program[0], size, tuple(states)))
                    self.assertEqual(common_invariants(program, first, *others), expected)

    def test_large(self):
        for program in LARGE[::3]:
            for name in plain.names(program):
                points = [point for point in plain.points(program) if point[0] == name]
                size = plain.state_size(program, name)
                for first, *others in (points[:1], points[:2], points[::-1], points * 2):
                    states = [state for point in [first] + others for state in state_basis(program, point)]
                    expected = annihilator(program[0], size, basis_of(program[0], size, tuple(states)))
                    self.assertEqual(common_invariants(program, first, *others), expected)

    def test_unreachable(self):
        whole = ((1, 0, 0), (0, 1, 0), (0, 0, 1))
        self.assertEqual(common_invariants(R, ("main", (2,))), whole)
        self.assertEqual(common_invariants(R, ("main", (2,)), ("main", (0,))),
                         common_invariants(R, ("main", (0,)), ("main", (2,)), ("main", (2,))))

    def test_examples(self):
        self.assertEqual(common_invariants(Q, ("main", (3,)), ("main", (2, 0, 1))), ())
        self.assertEqual(common_invariants(Q, ("main", (3,)), ("main", (2,))), ((0, 1, 255),))

    def test_wrong_arguments(self):
        def others(args):
            """The first one that is none of the procedure counts, also where it is a point of another one."""
            for point in args[2:]:
                if not is_point(args[0], point) or point[0] != args[1][0]:
                    return UnknownPoint, "point", point
            return None

        checks = [program_at(0), point_at(1), others]
        valid = (P, ("main", (1,)), ("main", (0,)), ("main", (1,)))
        check_all(self, common_invariants, valid, checks, point_junk())
        for one, two in itertools.product([("f", (0,)), ("main", (0,)), ("main", (True,)), None], repeat=2):
            check_call(self, common_invariants, checks, (P, ("main", (1,)), one, two))
            check_call(self, common_invariants, checks, (P, ("f", (1,)), ("f", (0, 0, 0)), one, two))
