"""[5.3], [6.1] to [6.3], and [0.1] to [0.5] and [0.9] of the functions on runs and of the class Machine."""
import itertools
import unittest

from tests import brute, forms, plain
from tests.checks import changed_parts, check_all, program_at, run_at
from tests.examples import P, Q, S
from tests.making import ENDLESS, KNOWN, NESTED, SWAPS, some_programs
from tests.wrong import check_call, few_junk, look, much_junk, outcome
from wordlaws.errors import InvalidNumber, InvalidProgram, InvalidRun, InvalidVector, TooMany
from wordlaws.runs.machine import Machine, configuration_after, is_run, runs_of_length, state_after

PROGRAMS = KNOWN + tuple(program for width in (1, 2, 4) for program in some_programs(25, width, 14))
RUN_JUNK = [
    (0,), (0, 0), (0, 1, 0), [0, 1, 0], (0, True), (False,), (0, 1, 0, None), (0, "1"), ((0,),), (0, (1,)), (0, [1]),
    (0, 1, 0, 0, 0, 0, 0, 0, 0), (0, 1, 0, 0, 0, 0, 0, 0, 0, 0), (7, 0, 1), (7, 0, 2), (256,), (-1,), {0: 0}, (0,) * 3000,
]


def some_runs(program, number, many, longest):
    """Runs by chance, which prefer no branch."""
    source = brute.seeded(number)
    for _ in range(many):
        found = plain.first_configuration(program)
        run = ()
        for _ in range(source.randrange(longest)):
            words = (0, 1, 2 ** program[0] - 1, source.randrange(2 ** program[0]))
            moves = plain.moves_at(program, plain.point_of(found), words) or [0]
            move = source.choice(moves)
            behind = plain.after(program, found, move)
            if behind is None:
                break
            found, run = behind, run + (move,)
        yield run


def told(machine):
    """All that can be seen of a machine."""
    return machine.moves, machine.position, machine.state, machine.depth, machine.has_ended, len(machine)


def expected(program, run):
    found = plain.configuration(program, run)
    point = plain.point_of(found)
    ended = point == ("main", plain.exit_of(program, "main"))
    return run, point, plain.state_of(found), len(found[1]), ended, len(run)


class Runs(unittest.TestCase):
    def check(self, program, value):
        found = plain.configuration(program, value)
        self.assertIs(is_run(program, value), found is not None, value)
        if found is None:
            for function in (configuration_after, state_after):
                with self.assertRaises(InvalidRun):
                    function(program, value)
            return
        self.assertEqual(configuration_after(program, value), found)
        self.assertEqual(state_after(program, value), (plain.point_of(found), plain.state_of(found)))

    def test_against_plain_steps(self):
        for number, program in enumerate(PROGRAMS):
            self.check(program, ())
            for run in some_runs(program, number, 6, 60):
                self.check(program, run)

    def test_changed_runs(self):
        for number, program in enumerate(PROGRAMS[::3]):
            for run in some_runs(program, number, 2, 14):
                for value in changed_parts(run, (0, 1, None, 2 ** program[0])):
                    self.check(program, value)
                for value in ([], list(run), run + (0,), run + (1,), run + (False,), run[::-1], (run,), dict(enumerate(run))):
                    self.check(program, value)

    def test_targets_that_are_globals(self):
        """The first call gives g the result u, which is 1 + g + a, and not what the callee gave to g."""
        run = (2, 0, 0, 0, 0, 0, 0, 0)
        self.assertEqual(configuration_after(SWAPS, run), ((3, 0), (("main", (2,), (2,)),)))
        inside = configuration_after(SWAPS, run[:5])
        self.assertEqual(inside, ((0, 0), (("main", (1,), (2,)), ("both", (3,), (2, 3)))))

    def test_end_of_main(self):
        program = (1, (), (("main", (), (), (), ()),))
        self.assertIs(is_run(program, ()), True)
        self.assertIs(is_run(program, (0,)), False)
        self.assertEqual(configuration_after(program, ()), ((), (("main", (0,), ()),)))

    def test_deep(self):
        depth = 5000
        down = (0,) + (1, 0, 0) * depth
        self.assertIs(is_run(P, down), True)
        self.assertEqual(len(configuration_after(P, down)[1]), depth + 2)
        run = down + (0, 0, 0) + (0, 0) * depth
        self.assertEqual(state_after(P, run), (("main", (1,)), (1, 6 * depth % 16)))
        self.assertIs(is_run(P, run + (0,)), False)

    def test_wrong_arguments(self):
        check_all(self, is_run, (Q, (7, 0)), [program_at(0)], RUN_JUNK, lambda p, v: plain.configuration(p, v) is not None)
        for function in (configuration_after, state_after):
            check_all(self, function, (P, (0, 1, 0)), [program_at(0), run_at(1)], RUN_JUNK)

    def test_examples(self):
        self.assertEqual(configuration_after(P, (0, 1, 0)), ((), (("main", (0,), (0,)), ("f", (0, 1, 1), (6,)))))
        self.assertEqual(state_after(P, (0, 1, 0, 0, 0, 0, 0, 0, 0)), (("main", (1,)), (1, 6)))
        self.assertIs(is_run(Q, (256,)), False)
        self.assertIs(is_run(Q, (255,)), True)


class Lengths(unittest.TestCase):
    def test_against_a_search(self):
        for program in PROGRAMS:
            for length in range(6):
                found = list(runs_of_length(program, length))
                self.assertEqual(found, sorted(plain.runs(program, length, (0, 1))))
                self.assertEqual(len(set(found)), len(found))

    def test_inputs(self):
        for program in (Q, ENDLESS, SWAPS, S, NESTED):
            top = 2 ** program[0] - 1
            for inputs in ((0,), (top,), (0, top), (1, 2, 3), (0, 1, 2, 3)):
                for length in range(5):
                    found = list(runs_of_length(program, length, inputs=inputs))
                    self.assertEqual(found, sorted(plain.runs(program, length, inputs)))
        self.assertEqual(list(runs_of_length(Q, 1, inputs=(3, 200))), [(3,), (200,)])
        self.assertEqual(len(list(runs_of_length(Q, 1, inputs=tuple(range(8))))), 8)

    def test_first_runs_without_the_others(self):
        for program in PROGRAMS:
            for length in (12, 29, 30):
                found = list(itertools.islice(runs_of_length(program, length), 20))
                self.assertEqual(found, sorted(set(found)))
                for run in found:
                    self.assertEqual(len(run), length)
                    self.assertIsNotNone(plain.configuration(program, run))
        self.assertEqual(next(runs_of_length(Q, 30)), (0, 0) + (1, 0, 0, 0) * 7)

    def test_no_runs_after_many_branches(self):
        """All branches end after 28 steps: that there are no longer runs is not found by trying all of them."""
        body = (("choose", ((), (), (), ())),) * 14
        program = (1, (), (("main", (), (), (), body),))
        self.assertEqual(list(runs_of_length(program, 30)), [])
        self.assertEqual(list(runs_of_length(program, 29)), [])
        self.assertEqual(next(runs_of_length(program, 28)), (0,) * 28)
        inner = (1, (), (("f", (), (), (), body[:6]), ("main", (), (), (), (("call", (), "f", ()), ("call", (), "f", ())))))
        self.assertEqual(list(runs_of_length(inner, 29)), [])
        self.assertEqual(next(runs_of_length(inner, 28)), (0,) * 28)

    def test_one_long_branch(self):
        """Only the last of many branches goes on: its runs come at once."""
        body = (("choose", ((), (), (), (("repeat", ()),))),) * 12
        program = (1, (), (("main", (), (), (), body),))
        found = next(runs_of_length(program, 30))
        self.assertEqual(found, (0,) * 22 + (3,) + (1, 0) * 3 + (0,))

    def test_ends(self):
        for program in PROGRAMS:
            self.assertEqual(list(runs_of_length(program, 0)), [()])

    def test_wrong_arguments(self):
        def listed(program, length, inputs):
            return list(itertools.islice(runs_of_length(program, length, inputs=inputs), 9))

        def length_check(args):
            return None if brute.is_int(args[1], 0, 30) else (InvalidNumber, "value", args[1])

        def inputs_check(args):
            value = args[2]
            right = type(value) is tuple and 1 <= len(value) <= 8 and all(brute.is_word(args[0][0], w) for w in value)
            return None if right and list(value) == sorted(set(value)) else (InvalidVector,)

        extra = [(0, 1), (1, 0), (0, 0), (0, 1, 2, 3, 4, 5, 6, 7), tuple(range(9)), (255,), (256,), [0, 1], (0, True),
                 (False, True), (0, None), (-1, 0), (0, 255, 256), 29, 30, 31]
        check_all(self, listed, (Q, 5, (0, 1)), [program_at(0), length_check, inputs_check], extra)
        check_call(self, listed, [length_check], (Q, 31, None))
        with self.assertRaises(InvalidProgram):
            list(runs_of_length(None, None, inputs=None))


class Form(unittest.TestCase):
    def test_all_stands_in_the_class(self):
        kinds = {
            "LONGEST": int, "along": classmethod, "position": property, "state": property, "depth": property,
            "has_ended": property, "moves": property,
        }
        for name in ("retrace", "go", "back", "visits", "__len__", "__eq__", "__init__", *kinds):
            self.assertIn(name, vars(Machine))
            self.assertIsInstance(vars(Machine)[name], kinds.get(name, object))
        self.assertIsNotNone(vars(Machine)["moves"].fset)
        self.assertEqual((Machine.LONGEST, Machine(P).LONGEST), (2000, 2000))

    def test_example(self):
        machine = Machine.along(Q, (7, 0))
        self.assertEqual(machine.state, (1, 7, 7))
        self.assertEqual(machine.go(1, 0, 0), (1, 8, 8))
        self.assertEqual(machine.position, ("main", (2, 0, 2)))
        self.assertEqual(machine.back(), (1, 8, 7))
        self.assertEqual(len(machine), 4)


class Machines(unittest.TestCase):
    def refused(self, machine, error, deed):
        """The deed raises the error, and the machine stays as it was."""
        before = told(machine)
        with self.assertRaises(error) as caught:
            deed()
        self.assertEqual(told(machine), before)
        self.assertEqual(list(machine.visits())[-1], (machine.position, machine.state))
        return caught.exception

    def test_going_on(self):
        for number, program in enumerate(PROGRAMS):
            for run in some_runs(program, number, 2, 40):
                machine = Machine(program)
                self.assertEqual(told(machine), expected(program, ()))
                for many, move in enumerate(run):
                    state = machine.go(move)
                    self.assertEqual(told(machine), expected(program, run[:many + 1]))
                    self.assertEqual(state, machine.state)
                self.assertEqual(told(Machine.along(program, run)), told(machine))
                other = Machine(program)
                self.assertEqual(other.go(*run), machine.state)
                self.assertEqual(told(other), told(machine))
                self.assertEqual(other.go(), machine.state)

    def test_going_back(self):
        for number, program in enumerate(PROGRAMS):
            for run in some_runs(program, number, 2, 40):
                machine = Machine.along(program, run)
                source = brute.seeded(number)
                while len(machine):
                    many = source.randint(0, min(5, len(machine)))
                    left = machine.moves[:len(machine) - many]
                    self.assertEqual(machine.back(many), expected(program, left)[2])
                    self.assertEqual(told(machine), expected(program, left))
                    if source.random() < 0.3:
                        machine.go(*run[len(machine):len(machine) + 2])
                        self.assertEqual(told(machine), expected(program, run[:len(machine)]))
                self.assertEqual(told(machine), told(Machine(program)))

    def test_visits(self):
        for number, program in enumerate(PROGRAMS):
            for run in some_runs(program, number, 2, 25):
                machine = Machine.along(program, run)
                found = list(machine.visits())
                self.assertEqual(found, [expected(program, run[:many])[1:3] for many in range(len(run) + 1)])
                self.assertEqual(told(machine), expected(program, run))

    def test_moves_that_are_not_possible(self):
        for number, program in enumerate(PROGRAMS[::2]):
            for run in some_runs(program, number, 1, 20):
                machine = Machine.along(program, run)
                found = plain.configuration(program, run)
                for move in few_junk() + [2 ** program[0], 2 ** program[0] - 1]:
                    if plain.after(program, found, move) is None:
                        error = self.refused(machine, InvalidNumber, lambda: machine.go(move))
                        self.assertIs(error.value, move)
                        error = self.refused(machine, InvalidNumber, lambda: machine.go(move, 0, None))
                        self.assertIs(error.value, move)
                half = len(run) // 2
                machine.back(len(run) - half)
                ahead = run[half:] + ("wrong", None)
                error = self.refused(machine, InvalidNumber, lambda: machine.go(*ahead))
                self.assertEqual(error.value, "wrong")
                self.assertEqual(machine.go(*run[half:]), plain.state_of(found))

    def test_wrong_numbers_to_take_back(self):
        machine = Machine.along(P, (0, 1, 0, 0))
        for many in much_junk() + [6]:
            if not brute.is_int(many, 0, 4):
                error = self.refused(machine, InvalidNumber, lambda: machine.back(many))
                self.assertIs(error.value, many)
        error = self.refused(Machine(P), InvalidNumber, Machine(P).back)
        self.assertEqual(error.value, 1)
        self.assertEqual(machine.back(0), (1, 6))
        self.assertEqual(machine.back(4), (1, 0))

    def test_assigned_moves(self):
        for number, program in enumerate(PROGRAMS):
            machine, other = Machine(program), Machine(program)
            for run in some_runs(program, number, 4, 30):
                machine.moves = run
                self.assertEqual(told(machine), expected(program, run))
                self.assertEqual(other.retrace(run), machine.state)
                self.assertEqual(told(other), told(machine))
                for wrong in (run + (None,), list(run), run + (-1,), (run,), None):
                    self.refused(machine, InvalidRun, lambda: setattr(machine, "moves", wrong))
                    self.refused(machine, InvalidRun, lambda: machine.retrace(wrong))
            for name in ("position", "state", "depth", "has_ended"):
                with self.assertRaises(AttributeError):
                    setattr(machine, name, 1)

    def test_longest_run(self):
        loop = (0, 1) + (1, 0) * 998 + (1,)
        program = (1, (), (("main", (), (), (), (("choose", ((), ())), ("repeat", ()))),))
        run = (0, 0) + (1, 0) * 999
        machine = Machine.along(program, run)
        self.assertEqual(len(machine), 2000)
        for deed in (lambda: machine.go(1), lambda: machine.go(1, 0, 1), lambda: machine.go(*(1, 0) * 1500),
                     lambda: machine.retrace(run + (1,)), lambda: setattr(machine, "moves", run + (1, 0))):
            error = self.refused(machine, TooMany, deed)
            self.assertEqual(error.limit, 2000)
        error = self.refused(machine, InvalidNumber, lambda: machine.go(1, 0, 5))
        self.assertEqual(error.value, 5)
        error = self.refused(machine, InvalidNumber, lambda: machine.go(*(1, 0) * 1500, 5))
        self.assertEqual(error.value, 5)
        self.refused(machine, InvalidRun, lambda: machine.retrace(run + (1, 1)))
        self.refused(machine, InvalidRun, lambda: machine.retrace(loop + (1,) * 3000))
        with self.assertRaises(TooMany) as caught:
            Machine.along(program, run + (1,))
        self.assertEqual(caught.exception.limit, 2000)
        with self.assertRaises(InvalidRun):
            Machine.along(program, run + (2,))
        self.assertEqual(machine.go(), (1,))
        machine.back(1)
        machine.go(0)
        self.assertEqual(len(machine), 2000)
        self.assertEqual(machine.go(*()), (1,))
        self.assertEqual(len(list(machine.visits())), 2001)
        short = Machine(program)
        self.refused(short, TooMany, lambda: short.go(*(run + (1,))))
        self.assertEqual(short.go(*run), (1,))

    def test_deep_machine(self):
        machine = Machine(P)
        machine.go(0)
        for _ in range(600):
            machine.go(1, 0, 0)
        self.assertEqual((machine.depth, machine.position), (602, ("f", (0,))))
        for _ in range(1800):
            machine.back()
        self.assertEqual(told(machine), expected(P, (0,)))

    def test_end(self):
        machine = Machine(P)
        self.assertIs(machine.has_ended, False)
        machine.go(0, 0, 0)
        self.assertIs(machine.has_ended, False)
        machine.go(0)
        self.assertIs(machine.has_ended, True)
        self.assertEqual((machine.depth, machine.position), (1, ("main", (1,))))
        self.assertIs(Machine((1, (), (("main", (), (), (), ()),))).has_ended, True)

    def test_equality(self):
        for program in PROGRAMS[:12]:
            runs = list(itertools.islice(runs_of_length(program, 3), 3)) + [()]
            for one, two in itertools.product(runs, runs):
                first, second = Machine.along(program, one), Machine.along(program, two)
                self.assertIs(first == second, one == two)
                self.assertIs(first != second, one != two)
        renamed = (8, (), (("main", (), ("z", "y"), (), (("input", "z"),)),))
        self.assertIs(Machine(Q) == Machine(renamed), False)
        for junk in much_junk() + [Q, ()]:
            self.assertIs(Machine(Q) == junk, False)
            self.assertIs(junk == Machine(Q), False)

    def test_two_machines_share_nothing(self):
        one, two = Machine(Q), Machine(Q)
        one.go(5, 0)
        self.assertEqual(told(two), expected(Q, ()))
        three = Machine.along(Q, one.moves)
        three.back(1)
        two.moves = one.moves
        two.go(1)
        self.assertEqual([told(one), told(two), told(three)],
                         [expected(Q, (5, 0)), expected(Q, (5, 0, 1)), expected(Q, (5,))])
        moves = one.moves
        one.go(1)
        self.assertEqual(moves, (5, 0))

    def test_wrong_arguments(self):
        def along(program, run):
            return told(Machine.along(program, run))

        def length_check(args):
            return (TooMany,) if len(args[1]) > 2000 else None

        check_all(self, lambda program: told(Machine(program)), (P,), [program_at(0)])
        long = [(0, 0) + (1, 0, 0, 0) * 500, (0,) * 2001]
        check_all(self, along, (Q, (7, 0)), [program_at(0), run_at(1), length_check], RUN_JUNK + long)
        for junk in few_junk():
            if not forms.is_program(junk):
                for args in ((junk, ()), (junk, junk), (junk, None)):
                    self.assertIs(type(outcome(Machine.along, args, {})[1]), InvalidProgram)

    def test_the_program_stays(self):
        for number, program in enumerate(PROGRAMS):
            before = look(program)
            machine = Machine(program)
            for run in some_runs(program, number, 2, 30):
                machine.moves = run
            self.assertEqual(look(program), before)
