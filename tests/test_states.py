"""[9.1], [9.2], and [0.1] to [0.5] and [0.9] of the functions on states."""
import itertools
import unittest

from tests import brute, plain
from tests.checks import check_all, name_at, point_at, point_junk, program_at
from tests.examples import P, Q, R, S
from tests.making import CHAIN, ENDLESS, KNOWN, NESTED, SWAPS, WIDE, some_programs
from tests.test_transforms import Least
from wordlaws.flow.states import entry_basis, is_reachable, spanning_trails, state_bases, state_basis
from wordlaws.modules.bases import basis_of, contains
from wordlaws.runs.machine import runs_of_length, state_after
from wordlaws.runs.trails import is_trail, trail_length, trail_state

SMALL = tuple(program for width in (1, 2, 3) for program in some_programs(80, width))
LARGE = tuple(program for width in (4, 8, 16) for program in some_programs(25, width, 14))


def least_states(program):
    """The least modules of [9.2]: the bases of entries and of states, from the transforms of [8.2], in rounds."""
    width = program[0]
    least = Least(program)
    entries = {name: () for name in plain.names(program)}
    entries["main"] = ((1,) + (0,) * len(program[1]),)
    states, before = {}, None
    while before != (entries, states):
        before = (dict(entries), dict(states))
        for point in plain.points(program):
            vectors = [
                plain.flat(plain.times(width, matrix, tuple((word,) for word in entry)))
                for matrix in least.matrices(point) for entry in entries[point[0]]
            ]
            states[point] = basis_of(width, plain.state_size(program, point[0]), tuple(vectors))
            if plain.kind(program, point) == "call":
                callee = plain.statement(program, point)[2]
                # The first entry of a vector of the module need not be 1.
                rows = plain.statement(program, point)[3]
                many = 1 + len(program[1])
                new = [v[:many] + tuple(brute.dot(width, row, v) for row in rows) for v in states[point]]
                size = plain.entry_size(program, callee)
                entries[callee] = basis_of(width, size, entries[callee] + tuple(new))
    return entries, states


class States(unittest.TestCase):
    def check(self, program, entries, states):
        """All functions return these bases."""
        self.assertEqual(state_bases(program), states)
        self.assertEqual(list(state_bases(program)), plain.points(program))
        for point in plain.points(program)[::3]:
            self.assertEqual(state_basis(program, point), states[point])
            self.assertIs(is_reachable(program, point), states[point] != ())
        for name in plain.names(program):
            self.assertEqual(entry_basis(program, name), entries[name])

    def test_against_a_search(self):
        for program in SMALL + (P, R, NESTED, SWAPS):
            reached = plain.reached_by_runs(program)
            entries = {
                name: basis_of(program[0], plain.entry_size(program, name), tuple(reached.entries(name)))
                for name in plain.names(program)
            }
            states = {
                point: basis_of(program[0], plain.state_size(program, point[0]), tuple(reached.states(point)))
                for point in plain.points(program)
            }
            self.check(program, entries, states)

    def test_against_the_least_modules(self):
        for program in KNOWN + SMALL[::5] + LARGE:
            self.check(program, *least_states(program))

    def test_states_of_short_runs(self):
        for program in KNOWN + LARGE:
            bases = state_bases(program)
            for length in (0, 1, 3, 6, 9):
                for run in itertools.islice(runs_of_length(program, length, inputs=(0, 1)), 12):
                    point, state = state_after(program, run)
                    self.assertTrue(contains(program[0], len(state), bases[point], state))

    def test_entry_with_a_repeat(self):
        """Runs come back to the entry place with other states, but do not enter the procedure with them."""
        loop = ("f", ("a",), (), ("a",), (("repeat", (("set", "a", (4, 1)),)),))
        program = (4, (), (loop, ("main", (), ("x",), (), (("call", ("x",), "f", ((2, 0),)),))))
        self.assertEqual(entry_basis(program, "f"), ((1, 2),))
        self.assertEqual(state_basis(program, ("f", (0,))), ((1, 2), (0, 4)))
        body = (("repeat", (("input", "x"),)),)
        program = (4, ("g",), (("main", (), ("x",), (), body),))
        self.assertEqual(entry_basis(program, "main"), ((1, 0),))
        self.assertEqual(state_basis(program, ("main", (0,))), ((1, 0, 0), (0, 0, 1)))

    def test_several_callers(self):
        f = ("f", ("a",), (), (), ())
        calls = [("call", (), "f", ((word, 0),)) for word in (3, 7, 11)]
        for many in range(4):
            program = (4, (), (f, ("main", (), ("x",), (), tuple(calls[:many]))))
            expected = ((), ((1, 3),), ((1, 3), (0, 4)), ((1, 3), (0, 4)))[many]
            self.assertEqual(entry_basis(program, "f"), expected)

    def test_unreachable_points(self):
        for point in (("main", (1, 0, 1)), ("main", (1, 0, 2)), ("main", (1, 1, 2)), ("lost", (2,)), ("never", (1,)),
                      ("idle", (0,)), ("idle", (2,))):
            self.assertEqual(state_basis(ENDLESS, point), ())
            self.assertEqual(spanning_trails(ENDLESS, point), ())
            self.assertIs(is_reachable(ENDLESS, point), False)
        self.assertEqual(entry_basis(ENDLESS, "idle"), ())
        self.assertIs(is_reachable(ENDLESS, ("lost", (1,))), True)
        self.assertIs(is_reachable(ENDLESS, ("main", (2,))), True)

    def test_wrong_arguments(self):
        for function in (state_basis, spanning_trails, is_reachable):
            check_all(self, function, (P, ("f", (1,))), [program_at(0), point_at(1)], point_junk())
        check_all(self, state_bases, (R,), [program_at(0)])
        check_all(self, entry_basis, (P, "f"), [program_at(0), name_at(1)], ["f", "g", "main", "ff", ("f",), ["f"]])


class Trails(unittest.TestCase):
    def check(self, program, point):
        vectors = []
        for trail in spanning_trails(program, point):
            self.assertTrue(plain.is_trail(program, trail))
            self.assertTrue(is_trail(program, trail))
            found, state = trail_state(program, trail)
            self.assertEqual(found, point)
            if trail_length(program, trail) < 200:
                self.assertEqual((found, state), plain.trail_end(program, trail))
            vectors.append(state)
        basis = basis_of(program[0], plain.state_size(program, point[0]), tuple(vectors))
        self.assertEqual(basis, state_basis(program, point))
        self.assertIs(is_reachable(program, point), bool(vectors))

    def test_they_span_the_states(self):
        for program in KNOWN + SMALL[::6] + LARGE[::3]:
            for point in plain.points(program):
                self.check(program, point)

    def test_kinds(self):
        trails = spanning_trails(P, ("main", (1,)))
        self.assertIs(type(trails), tuple)
        self.assertGreaterEqual(len(trails), 2)
        self.assertEqual(spanning_trails(P, ("main", (1,))), trails)

    def test_chains(self):
        """The calls of CHAIN double from procedure to procedure."""
        for point in plain.points(CHAIN):
            self.check(CHAIN, point)
        for point in plain.points(WIDE)[::4]:
            self.check(WIDE, point)


class Examples(unittest.TestCase):
    def test_bases(self):
        self.assertEqual(state_basis(P, ("main", (1,))), ((1, 0), (0, 2)))
        self.assertEqual(state_basis(Q, ("main", (3,))), ((1, 0, 0), (0, 1, 1)))
        self.assertEqual(entry_basis(R, "stop"), ((1, 0), (0, 1)))
        self.assertEqual(state_basis(R, ("main", (2,))), ())

    def test_others(self):
        self.assertEqual(spanning_trails(R, ("main", (2,))), ())
        self.assertIs(is_reachable(R, ("stop", (1,))), True)
        self.assertIs(is_reachable(S, ("none", (0,))), True)
