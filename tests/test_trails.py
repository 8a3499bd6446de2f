"""[7.1] to [7.3], and [0.1] to [0.5] and [0.9] of the functions on trails."""
import unittest

from tests import brute, plain
from tests.checks import changed_parts, check_all, program_at, run_at, trail_at, trail_junk
from tests.examples import P, S
from tests.making import CHAIN, DOUBLE, KNOWN, SWAPS, WIDE, some_programs
from tests.test_machine import RUN_JUNK, some_runs
from tests.wrong import check_call, much_junk
from wordlaws.errors import InvalidNumber, InvalidTrail, TooMany
from wordlaws.runs import trails
from wordlaws.runs.machine import is_run, state_after
from wordlaws.runs.trails import is_trail, outcome_matrix, spelled_run, trail_length, trail_of_run, trail_state

PROGRAMS = KNOWN + tuple(program for width in (1, 2, 4) for program in some_programs(25, width, 14))
PIECES = (("f", (0, 0)), ("f", (1, 0, 0, 0)))


def some_trails(program, number, many=4, longest=40):
    """Trails of runs by chance, made by the tests on their own, with pieces that are not used put between."""
    source = brute.seeded(number)
    for run in some_runs(program, number, many, longest):
        yield by_hand(program, run, source)


def by_hand(program, run, source):
    """A trail that stands for the run, in which some pieces stand twice, and either one is used."""
    pieces, frames = [], [[]]
    found = plain.first_configuration(program)
    for move in run:
        point = plain.point_of(found)
        if plain.kind(program, point) == "call":
            frames.append([])
        elif plain.kind(program, point) == "exit":
            made = (point[0], tuple(frames.pop()))
            many = source.randint(1, 3)
            frames[-1].append(len(pieces) + source.randrange(many))
            pieces += [made] * many
        else:
            frames[-1].append(move)
        found = plain.after(program, found, move)
    return tuple(pieces), tuple(map(tuple, frames))


class Trails(unittest.TestCase):
    def check(self, program, value):
        """All functions against the spelled run."""
        right = plain.is_trail(program, value)
        self.assertIs(is_trail(program, value), right, value)
        if not right:
            for function in (trail_state, trail_length, spelled_run):
                with self.assertRaises(InvalidTrail):
                    function(program, value)
            with self.assertRaises(InvalidTrail):
                outcome_matrix(program, value, 0)
            return
        run = plain.spelled(program, value)
        found = plain.configuration(program, run)
        self.assertEqual(spelled_run(program, value), run)
        self.assertEqual(trail_length(program, value), len(run))
        self.assertEqual(trail_state(program, value), (plain.point_of(found), plain.state_of(found)))
        self.assertEqual(len(value[1]), len(found[1]))
        for number in range(len(value[0])):
            self.check_outcome(program, value, number)

    def check_outcome(self, program, trail, number):
        """The matrix takes some entries to what plain steps make of them."""
        name, moves = trail[0][number]
        matrix = outcome_matrix(program, trail, number)
        columns = plain.outcome_columns(program, name)
        size = plain.entry_size(program, name)
        self.assertEqual([len(row) for row in matrix], [size] * len(columns))
        source = brute.seeded(number)
        entries = [(1,) + tuple(int(at == place) for at in range(size - 1)) for place in range(size)]
        entries.append((1,) + tuple(source.randrange(2 ** program[0]) for _ in range(size - 1)))
        for entry in entries:
            point, state = plain.way_end(program, name, (trail[0][:number], moves), entry)
            self.assertEqual(point, (name, plain.exit_of(program, name)))
            expected = tuple(state[at] for at in columns)
            self.assertEqual(tuple(brute.dot(program[0], row, entry) for row in matrix), expected)

    def test_constant(self):
        self.assertEqual(trails.MAX_SPELLED, 10000)

    def test_against_spelled_runs(self):
        for number, program in enumerate(PROGRAMS):
            self.check(program, ((), ((),)))
            for trail in some_trails(program, number):
                self.check(program, trail)

    def test_changed_trails(self):
        rights = 0
        for number, program in enumerate(PROGRAMS[:10] + PROGRAMS[10::5]):
            for trail in some_trails(program, number, 2, 16):
                pieces = tuple(piece for piece in trail[0])[:2]
                for value in changed_parts(trail, (0, 1, None, (), "main") + pieces):
                    rights += plain.is_trail(program, value)
                    self.check(program, value)
        self.assertGreater(rights, 100)

    def test_frames(self):
        for frames, right in (
            (((),), True), (((), ()), True), (((), (), ()), False), (((), (1,), ()), False), (((), (1, 0), ()), True),
            (((0,),), False), (((), (0, 0)), True), (((), (0, 0, 0)), False), ((), False), (((), (1, 0, 0)), False),
            (((), (1, 0), (1, 0), (0,)), True), (((1, 0),), False), (([],), False), ([()], False),
        ):
            self.assertIs(is_trail(P, ((), frames)), right, frames)
            self.check(P, ((), frames))
        self.check(P, (PIECES, ((0, 0),)))
        self.check(P, (PIECES, ((1,), ())))

    def test_pieces(self):
        for pieces, right in (
            ((("f", (0, 0)),), True), ((("f", (1, 0, 0, 0)),), False), ((("f", (1, 0, 0, 0)), ("f", (0, 0))), False),
            ((("f", (0,)),), False), ((("f", (0, 0, 0)),), False), ((("main", (0,)),), False), ((("f", ()),), False),
            (PIECES + (("main", (1,)),), True), (PIECES + (("main", ()),), False), (PIECES + (("main", (2,)),), False),
            (PIECES + (("f", (1, 0, 2, 0)),), False), (PIECES + (("f", (1, 0, 1, 0)),), True),
            ((("x", (0, 0)),), False),
            (PIECES + (("f", (1, 0, True, 0)),), False), (PIECES + (("f", (1, 0, -1, 0)),), False),
        ):
            self.assertIs(is_trail(P, (pieces, ((),))), right, pieces)
            self.check(P, (pieces, ((),)))

    def test_pieces_of_main(self):
        pieces = PIECES + (("main", (1,)),)
        self.assertEqual(outcome_matrix(P, (pieces, ((),)), 2), ((1,),))
        self.assertEqual(trail_state(P, (pieces, ((0,),))), (("main", (1,)), (1, 0)))
        self.assertIs(is_trail(P, (pieces, ((2,),))), False)
        self.assertEqual(outcome_matrix(DOUBLE, ((("f", (0, 0, 0)), ("main", (0, 0))), ((),)), 1), ((1, 0), (1, 1)))

    def test_a_piece_of_another_procedure(self):
        pieces = (("none", ()), ("z", (0, 0)), ("longname", (2, 0)))
        self.assertIs(is_trail(S, (pieces, ((2, 0, 0),))), True)
        for moves in ((0, 0, 0), (1, 0, 0), (2, 0, 1), (2, 0, 2), (2, 1, 0), (2, 1, 2), (3, 0, 0)):
            self.assertIs(is_trail(S, (pieces, (moves,))), False)
        self.assertIs(is_trail(S, (pieces, ((2, 1, 1, 5, 0, 0),))), True)

    def test_numbers_of_many_digits(self):
        """Each piece passes two calls by the one before it."""
        many = 6000
        pieces = (("f", (0, 0, 0)),) + tuple(("f", (1, k, k, 0)) for k in range(many))
        self.assertIs(is_trail(DOUBLE, (pieces, ((many,),))), True)
        # A piece has one step into its block, 2 more for each call than the piece before has, and one step behind it.
        steps = 3
        for _ in range(many):
            steps = 2 * steps + 6
        self.assertEqual(trail_length(DOUBLE, (pieces, ((many,),))), steps + 2)
        self.assertEqual(trail_state(DOUBLE, (pieces, ((many, 0),))), (("main", (2,)), (1, 0, 0)))
        self.assertEqual(trail_state(DOUBLE, (pieces, ((7, 0),))), (("main", (2,)), (1, 128, 128)))
        self.assertEqual(outcome_matrix(DOUBLE, (pieces, ((),)), 5), ((1, 0), (32, 1)))
        self.assertEqual(outcome_matrix(DOUBLE, (pieces, ((),)), many), ((1, 0), (0, 1)))
        with self.assertRaises(TooMany):
            spelled_run(DOUBLE, (pieces, ((many,),)))
        self.assertEqual(len(spelled_run(DOUBLE, (pieces, ((9,),)))), trail_length(DOUBLE, (pieces, ((9,),))))

    def test_thousands_of_pieces_and_frames(self):
        many = 8000
        pieces = (("f", (0, 0)),) + tuple(("f", (1, 0, k, 0)) for k in range(many))
        trail = (pieces, ((many,),))
        self.assertIs(is_trail(P, trail), True)
        self.assertEqual(trail_state(P, trail), (("main", (1,)), (1, 6 * many % 16)))
        self.assertEqual(trail_length(P, trail), 5 * many + 4)
        self.assertIs(is_trail(P, (pieces[:5000] + pieces[5001:], ((0,),))), False)
        frames = ((),) + ((1, 0),) * many
        self.assertEqual(trail_state(P, ((), frames)), (("f", (0, 1, 1)), (1, 6 * many % 16)))
        self.assertEqual(trail_length(P, ((), frames)), 3 * many)
        self.assertIs(is_trail(P, ((), frames[:4000] + ((1,),) + frames[4001:])), False)
        both = (pieces, frames + ((1, 0, many - 1),))
        self.assertEqual(trail_state(P, both), (("f", (0, 1, 2)), (1, 12 * many % 16)))
        self.assertEqual(trail_length(P, both), 3 * many + 5 * (many - 1) + 7)

    def test_spelled_runs_at_the_bound(self):
        """Both with steps of main alone, and with pieces: a call of f that adds k times has 4 + 5 k steps."""
        pieces = (("f", (0, 0)),) + tuple(("f", (1, 0, k, 0)) for k in range(2100))
        loop = (2, (), (("main", (), (), (), (("repeat", ()),)),))
        for many, last in ((9999, (1,)), (10000, ()), (10001, (1,))):
            trail = ((), ((1, 0) * (many // 2) + last,))
            self.assertEqual(trail_length(loop, trail), many)
            if many <= 10000:
                self.assertEqual(spelled_run(loop, trail), trail[1][0])
            else:
                with self.assertRaises(TooMany) as caught:
                    spelled_run(loop, trail)
                self.assertEqual(caught.exception.limit, 10000)
        for number in range(1990, 2010):
            trail = (pieces, ((number,),))
            steps = 4 + 5 * number
            self.assertEqual(trail_length(P, trail), steps)
            if steps <= 10000:
                run = spelled_run(P, trail)
                self.assertEqual(len(run), steps)
                self.assertEqual(state_after(P, run), trail_state(P, trail))
            else:
                with self.assertRaises(TooMany):
                    spelled_run(P, trail)
        frames = ((),) + ((1, 0),) * 3333
        self.assertEqual(trail_length(P, ((), frames + ((),))), 10000)
        self.assertEqual(spelled_run(P, ((), frames + ((),))), (0,) + (1, 0, 0) * 3333)
        with self.assertRaises(TooMany):
            spelled_run(P, ((), frames + ((1,),)))

    def test_wrong_arguments(self):
        def right(program, value):
            return plain.is_trail(program, value)

        def number_at(args):
            return None if brute.is_int(args[2], 0, len(args[1][0]) - 1) else (InvalidNumber, "value", args[2])

        trail = (PIECES, ((1,),))
        check_all(self, is_trail, (P, trail), [program_at(0)], trail_junk(), right)
        for function in (trail_state, trail_length, spelled_run):
            check_all(self, function, (P, trail), [program_at(0), trail_at(1)], trail_junk())
        check_all(self, outcome_matrix, (P, trail, 1), [program_at(0), trail_at(1), number_at], trail_junk())
        for number in much_junk():
            check_call(self, outcome_matrix, [number_at], (P, ((), ((),)), number))


class TrailsOfRuns(unittest.TestCase):
    def check(self, program, run):
        trail = trail_of_run(program, run)
        self.assertTrue(plain.is_trail(program, trail))
        self.assertEqual(plain.spelled(program, trail), run)
        self.assertEqual(trail_of_run(program, run), trail)

    def test_runs_by_chance(self):
        for number, program in enumerate(PROGRAMS):
            for run in some_runs(program, number, 5, 60):
                self.check(program, run)

    def test_runs_that_end_within_calls(self):
        run = (0, 1, 0, 0, 1, 0, 0, 0, 0, 0, 0, 0, 0, 0)
        self.assertTrue(is_run(P, run))
        for many in range(len(run) + 1):
            self.check(P, run[:many])
        run = (2, 0, 0, 0, 0, 1, 0, 0, 0, 0, 0, 0, 0, 0, 0, 0)
        self.assertTrue(is_run(SWAPS, run))
        for many in range(len(run) + 1):
            self.check(SWAPS, run[:many])

    def test_long_runs(self):
        depth = 3000
        run = (0,) + (1, 0, 0) * depth + (0, 0, 0) + (0, 0) * depth
        pieces, frames = trail_of_run(P, run)
        self.assertEqual((len(pieces), frames), (depth + 1, ((depth,),)))
        self.assertEqual(trail_state(P, (pieces, frames)), state_after(P, run))
        self.assertEqual(len(trail_of_run(P, run[:3 * depth])[1]), depth + 1)
        self.assertEqual(spelled_run(P, trail_of_run(P, run[:9999])), run[:9999])

    def test_wide_words(self):
        run = (54321, 0, 0, 0, 0, 0, 0, 0, 0, 1, 0, 0)
        self.assertTrue(is_run(WIDE, run))
        self.check(WIDE, run)
        self.check(CHAIN, (777, 0, 0, 0, 0, 0))

    def test_wrong_arguments(self):
        check_all(self, trail_of_run, (P, (0, 1, 0)), [program_at(0), run_at(1)], RUN_JUNK)


class Examples(unittest.TestCase):
    def test_trails(self):
        self.assertEqual(trail_state(P, (PIECES, ((1,),))), (("main", (1,)), (1, 6)))
        self.assertEqual(trail_length(P, (PIECES, ((1,),))), 9)
        self.assertEqual(outcome_matrix(P, (PIECES, ((),)), 1), ((1, 0), (6, 1)))
        self.assertIs(is_trail(P, (PIECES, ((2,),))), False)
        self.assertEqual(trail_state(P, ((), ((), (1, 0)))), (("f", (0, 1, 1)), (1, 6)))
        self.assertEqual(spelled_run(P, (PIECES, ((1,),))), (0, 1, 0, 0, 0, 0, 0, 0, 0))
