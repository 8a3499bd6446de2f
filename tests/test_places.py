"""[5.4], [5.5], and [0.1] to [0.5] and [0.9] of the functions on places."""
import unittest

from tests import plain
from tests.checks import check_all, is_point, name_at, point_at, point_junk, program_at
from tests.examples import P, Q, R, S
from tests.making import KNOWN, NESTED, some_programs
from tests.wrong import check_call, much_junk
from wordlaws.code.places import next_place, places_of, points_of, statement_at
from wordlaws.errors import InvalidNumber

PROGRAMS = KNOWN + tuple(program for width in (1, 2, 3) for program in some_programs(60, width, 20))


def move_at(place):
    def check(args):
        right = plain.next_place(args[0], args[1], args[place]) is not None
        return None if right else (InvalidNumber, "value", args[place])
    return check


class Places(unittest.TestCase):
    def test_against_a_walk(self):
        for program in PROGRAMS:
            points = []
            for name in plain.names(program):
                places = places_of(program, name)
                self.assertEqual(places, tuple(plain.places(program, name)))
                self.assertEqual(places, tuple(sorted(set(places))))
                self.assertTrue(all(len(place) % 2 == 1 for place in places))
                self.assertEqual((places[0], places[-1]), ((0,), plain.exit_of(program, name)))
                points += [(name, place) for place in places]
            self.assertEqual(points_of(program), tuple(points))
            self.assertEqual(points, sorted(points))

    def test_nested(self):
        self.assertEqual(places_of(NESTED, "empty"), ((0,),))
        self.assertEqual(places_of(NESTED, "main"),
                         ((0,), (0, 0, 0), (1,), (1, 0, 0), (1, 1, 0), (2,), (3,), (4,)))
        self.assertEqual(places_of(NESTED, "deep"), (
            (0,), (0, 0, 0), (0, 0, 0, 0, 0), (0, 0, 0, 0, 0, 0, 0), (0, 0, 0, 0, 1), (0, 0, 1), (0, 0, 2),
            (1,), (1, 0, 0), (1, 0, 0, 0, 0), (1, 0, 0, 1, 0), (1, 0, 0, 1, 0, 0, 0), (1, 0, 0, 1, 0, 1, 0),
            (1, 0, 0, 1, 0, 1, 1), (1, 0, 0, 1, 0, 2, 0), (1, 0, 0, 1, 1), (1, 0, 0, 2, 0), (1, 0, 1), (1, 0, 2),
            (1, 1, 0), (1, 1, 0, 0, 0), (1, 1, 0, 0, 0, 0, 0), (1, 1, 0, 0, 0, 0, 1), (1, 1, 0, 0, 0, 1, 0),
            (1, 1, 0, 0, 0, 1, 1), (1, 1, 0, 0, 1), (1, 1, 1), (1, 2, 0), (1, 3, 0), (1, 3, 1), (1, 3, 2), (2,),
        ))

    def test_statements(self):
        for program in PROGRAMS:
            for name in plain.names(program):
                for place, here in plain.walk(plain.procedure(program, name)[4]):
                    self.assertEqual(statement_at(program, (name, place)), here)
                    self.assertEqual(plain.statement(program, (name, place)), here)

    def test_most_places(self):
        block = (("choose", ((), (), (), ())),) * 60
        program = (1, (), (("main", (), (), (), block),))
        self.assertEqual(len(places_of(program, "main")), 301)

    def test_wrong_arguments(self):
        check_all(self, places_of, (S, "z"), [program_at(0), name_at(1)])
        check_all(self, points_of, (S,), [program_at(0)])
        check_all(self, statement_at, (P, ("f", (0, 1, 0))), [program_at(0), point_at(1)], point_junk())
        for program in (P, NESTED):
            for place in plain.places(program, "main"):
                for wrong in (place + (0,), place[:-1], place + (0, 0), place[:-1] + (place[-1] + 7,), list(place),
                              place[:-1] + (str(place[-1]),), place[:-1] + (bool(place[-1]),), place[:-1] + (-1,)):
                    if not is_point(program, ("main", wrong)):
                        check_call(self, statement_at, [point_at(1)], (program, ("main", wrong)))


class Steps(unittest.TestCase):
    def check(self, program, point, move):
        check_call(self, next_place, [move_at(2)], (program, point, move))
        expected = plain.next_place(program, point, move)
        if expected is not None:
            self.assertEqual(next_place(program, point, move), expected)
            self.assertIn((point[0], expected), plain.points(program))

    def test_every_move_near_the_bounds(self):
        for program in KNOWN + tuple(some_programs(15, 2, 20)):
            top = 2 ** program[0]
            for point in plain.points(program):
                for move in (-2, -1, 0, 1, 2, 3, 4, 5, top - 1, top, top + 1, 10 ** 39, True, False, None, "0", (0,)):
                    self.check(program, point, move)

    def test_exits(self):
        for program in KNOWN:
            for name in plain.names(program):
                for move in (-1, 0, 1, 2):
                    with self.assertRaises(InvalidNumber):
                        next_place(program, (name, plain.exit_of(program, name)), move)

    def test_calls_lead_behind(self):
        for program in KNOWN:
            for point in plain.points(program):
                if plain.kind(program, point) == "call":
                    self.assertEqual(next_place(program, point, 0), plain.next_of(point[1]))

    def test_wrong_arguments(self):
        checks = [program_at(0), point_at(1), move_at(2)]
        check_all(self, next_place, (P, ("f", (0,)), 1), checks, point_junk())
        check_all(self, next_place, (Q, ("main", (0,)), 255), checks)
        for move in much_junk():
            check_call(self, next_place, checks, (Q, ("main", (0,)), move))
            check_call(self, next_place, checks, (Q, ("main", (2,)), move))


class Examples(unittest.TestCase):
    def test_places(self):
        self.assertEqual(places_of(P, "f"), ((0,), (0, 0, 0), (0, 1, 0), (0, 1, 1), (0, 1, 2), (1,)))
        self.assertEqual(statement_at(Q, ("main", (1,))), ("set", "y", (0, 1, 0)))
        self.assertIsNone(statement_at(P, ("f", (0, 0, 0))))
        self.assertIsNone(statement_at(P, ("f", (1,))))
        self.assertEqual(points_of(R), (("main", (0,)), ("main", (0, 0, 0)), ("main", (0, 0, 1)), ("main", (1,)),
                                        ("main", (2,)), ("stop", (0,)), ("stop", (1,)), ("stop", (2,))))

    def test_steps(self):
        self.assertEqual(next_place(P, ("f", (0,)), 1), (0, 1, 0))
        self.assertEqual(next_place(Q, ("main", (2, 0, 2)), 0), (2,))
        self.assertEqual(next_place(Q, ("main", (2,)), 0), (3,))
