"""Stage 16: edits, and [0.1] to [0.5] and [0.9] of them."""
import copy
import unittest

from tests import brute, forms, plain
from tests.examples import ALL, P, Q, R, S
from tests.making import KNOWN, NESTED, some_programs
from tests.wrong import few_junk, look, much_junk
from wordlaws.errors import InvalidEdit, InvalidProgram
from wordlaws.modules.spaces import Module
from wordlaws.shop.edits import Add, Drop, Edit, Put, Replace, Several, Take

SMALL = tuple(program for width in (1, 2, 4, 16) for program in some_programs(30, width, 12))
SET = ("set", "x", (1, 1, 0))

def some_edits(program, source):
    """Edits of all kinds, of which some can be done and some cannot."""
    points = plain.points(program)
    name, place = point = source.choice(points)
    variables = plain.variables(program, name)
    row = tuple(source.choice((0, 1, 1, 2 ** program[0])) for _ in range(1 + len(variables)))
    statement = source.choice([
        ("set", source.choice(variables + ("q",)), row), ("input", source.choice(variables + ("q",))), ("repeat", ()),
        ("choose", ((), (("repeat", ()),))), ("call", (), source.choice(plain.names(program)), ()), None, ("set",),
    ] + [plain.statement(program, other) for other in source.choices(points, k=3)])
    new = ("n" * source.randint(1, 8), (), (), (), ())
    return [
        Put(point, statement), Take(point), Replace(point, statement), Add(new), Add(source.choice(program[2])),
        Drop(source.choice(plain.names(program) + ["lost"])),
    ]


def by_hand(program, point, new, gone):
    """The program with these statements put in and so many taken away there, by slices."""
    def block(statements, place):
        if len(place) == 1:
            return statements[:place[0]] + new + statements[place[0] + gone:]
        here, (at, number) = statements[place[0]], place[:2]
        parts = here[1] if here[0] == "choose" else here[1:]
        parts = parts[:number] + (block(parts[number], place[2:]),) + parts[number + 1:]
        return statements[:at] + ((here[0], parts if here[0] == "choose" else parts[0]),) + statements[at + 1:]
    return program[:2] + (tuple(
        entry[:4] + (block(entry[4], point[1]),) if entry[0] == point[0] else entry for entry in program[2]
    ),)


class Case(unittest.TestCase):
    def check(self, edit, program, expected):
        """The program after the edit is known; None if the edit cannot be done."""
        before = look(program)
        if expected is None or not forms.is_program(expected):
            for function in (edit.applied, edit.inverse):
                with self.assertRaises(InvalidEdit):
                    function(program)
            return False
        self.assertEqual(edit.applied(program), expected)
        back = edit.inverse(program)
        self.assertIsInstance(back, Edit)
        self.assertEqual(back.applied(expected), program)
        self.assertEqual(back.inverse(expected).applied(program), expected)
        self.assertEqual(edit.applied(program), expected)
        self.assertEqual(look(program), before)
        return True


class Statements(Case):
    def test_at_all_points(self):
        """Put, Take and Replace at each kind of place, with statements that fit and with others."""
        done = {Put: 0, Take: 0, Replace: 0}
        for program in ALL + (NESTED,) + SMALL[::6]:
            for point in plain.points(program):
                here = plain.statement(program, point)
                size = plain.state_size(program, point[0])
                names = plain.variables(program, point[0])[-1:] or ("x",)
                for new in (("set", names[0], (1,) * size), ("input", names[0]), ("repeat", ()), ("input", "qq"),
                            ("choose", ((("repeat", ()),), ())), ("call", (), "none", ()), ("choose", ((),))):
                    done[Put] += self.check(Put(point, new), program, by_hand(program, point, (new,), 0))
                    expected = here and by_hand(program, point, (new,), 1)
                    done[Replace] += self.check(Replace(point, new), program, expected)
                done[Take] += self.check(Take(point), program, here and by_hand(program, point, (), 1))
        self.assertGreater(min(done.values()), 100)

    def test_ends_of_blocks(self):
        for place in ((3,), (2, 0, 2), (0,)):
            changed = Put(("main", place), SET).applied(Q)
            self.assertEqual(plain.statement(changed, ("main", place)), SET)
            self.assertEqual(len(plain.points(changed)), len(plain.points(Q)) + 1)
        for place in ((3,), (2, 0, 2)):
            self.check(Take(("main", place)), Q, None)
            self.check(Replace(("main", place), SET), Q, None)

    def test_points_that_are_none(self):
        for point in much_junk() + [("main", (4,)), ("main", (True,)), ("main", [0]), ["main", (0,)], ("lost", (0,))]:
            for edit in (Put(point, SET), Take(point), Replace(point, SET)):
                self.check(edit, Q, None)

    def test_statements_that_are_none(self):
        for statement in much_junk() + [list(SET), ("set", "x", [1, 1, 0]), ("set", "z", (1, 1, 0)), SET[:2],
                                        ("set", "x", (1, 256, 0)), ("set", "x", (1, True, 0)), (SET,), ("input", ["x"])]:
            self.check(Put(("main", (0,)), statement), Q, None)
            self.check(Replace(("main", (0,)), statement), Q, None)

    def test_bounds(self):
        program = (2, (), (("main", (), ("x",), (), (("input", "x"),) * 59),))
        full = Put(("main", (5,)), ("repeat", ())).applied(program)
        self.check(Put(("main", (5,)), ("input", "x")), full, None)
        self.check(Put(("main", (5, 0, 0)), ("input", "x")), full, None)
        self.check(Replace(("main", (5,)), ("repeat", (("input", "x"),))), full, None)
        self.assertTrue(self.check(Replace(("main", (5,)), ("input", "x")), full, (
            2, (), (("main", (), ("x",), (), (("input", "x"),) * 60),))))
        deep = (2, (), (("main", (), (), (), (("repeat", (("repeat", (("repeat", ()),)),)),)),))
        self.check(Put(("main", (0, 0, 0, 0, 0, 0, 0)), ("repeat", ())), deep, None)
        self.assertTrue(self.check(Put(("main", (0, 0, 0, 0, 1)), ("repeat", ())), deep, by_hand(
            deep, ("main", (0, 0, 0, 0, 1)), (("repeat", ()),), 0)))

    def test_by_chance(self):
        done = 0
        for number, program in enumerate(KNOWN + SMALL):
            source = brute.seeded(number)
            for edit in some_edits(program, source):
                for other in (program, KNOWN[number % len(KNOWN)]):
                    try:
                        expected = edit.applied(other)
                    except InvalidEdit:
                        expected = None
                    done += self.check(edit, other, expected)
        self.assertGreater(done, 100)


class Procedures(Case):
    def test_add(self):
        for name, places in (("aa", (0, 1, 2)), ("g", (1, 0, 2)), ("zz", (2, 0, 1))):
            new = (name, ("p",), (), ("p",), (("call", ("p",), "f", ((1, 1),)),))
            expected = tuple(entry for _, entry in sorted(zip(places, (new,) + P[2])))
            self.assertTrue(self.check(Add(new), P, P[:2] + (expected,)))

    def test_add_what_cannot_be_added(self):
        new = ("g", (), (), (), ())
        for junk in much_junk() + [P[2][0], P[2][1], list(new), new[:4], new + (0,), ("G",) + new[1:], (None,) + new[1:],
                                   ([],) + new[1:], new[:4] + ([],), new[:4] + (("repeat", ()),), ("g", "a", (), (), ()),
                                   ("g", ("a",), (), ("b",), ()), ("g", (), (), (), (("call", (), "h", ()),)),
                                   ("g", ("a",), ("a",), (), ()), ("g", tuple("abcde"), (), (), ())]:
            self.check(Add(junk), P, None)
        six = (2, (), tuple((name, (), (), (), ()) for name in ("a", "b", "c", "d", "e", "main")))
        self.check(Add(new), six, None)
        self.assertTrue(self.check(Drop("c"), six, six[:2] + (six[2][:2] + six[2][3:],)))

    def test_drop(self):
        self.check(Drop("f"), P, None)
        self.check(Drop("main"), P, None)
        self.check(Drop("main"), (2, (), (("main", (), (), (), ()),)), None)
        self.check(Drop("longname"), S, None)
        alone = Take(("main", (0,))).applied(P)
        self.assertTrue(self.check(Drop("f"), alone, (4, (), (("main", (), ("x",), (), ()),))))
        for junk in much_junk():
            self.check(Drop(junk), alone, None)


class SeveralEdits(Case):
    def test_one_after_another(self):
        done = 0
        for number, program in enumerate(SMALL[::2]):
            source = brute.seeded(number)
            edits, now = [], program
            for _ in range(5):
                for edit in some_edits(now, source):
                    try:
                        now = edit.applied(now)
                        edits.append(edit)
                    except InvalidEdit:
                        pass
            done += len(edits)
            self.assertTrue(self.check(Several(*edits), program, now))
            half = len(edits) // 2
            for nested in (Several(Several(*edits[:half]), Several(Several(*edits[half:]))), Several(*edits) + Several(),
                           Several(Several(), *edits[:half], Several(*edits[half:])), sum(edits, Several())):
                self.assertTrue(self.check(nested, program, now))
                self.assertEqual((len(nested), str(nested)), (len(edits), f"{len(edits)} edits"))
        self.assertGreater(done, 100)

    def test_no_parts(self):
        for program in KNOWN:
            self.assertTrue(self.check(Several(), program, program))
            self.assertTrue(self.check(Several(Several(), Several(Several())), program, program))
        self.assertEqual((len(Several()), str(Several())), (0, "0 edits"))

    def test_the_result_of_each_must_be_a_program(self):
        call, drop = Put(("main", (0,)), ("call", (), "g", ())), Add(("g", (), (), (), ()))
        self.check(Several(call, drop), Q, None)
        self.assertTrue(self.check(Several(drop, call), Q, call.applied(drop.applied(Q))))
        self.check(Several(drop, call, Drop("g")), Q, None)
        self.assertTrue(self.check(Several(drop, call, Take(("main", (0,))), Drop("g")), Q, Q))

    def test_points_are_those_of_the_program_at_that_time(self):
        edit = Several(Put(("main", (0,)), SET), Put(("main", (0,)), ("input", "y")), Take(("main", (1,))))
        self.assertEqual(edit.applied(Q)[2][0][4], (("input", "y"),) + Q[2][0][4])
        self.check(Several(Take(("main", (2,))), Take(("main", (2,)))), Q, None)

    def test_parts_that_are_no_edits(self):
        take = Take(("main", (0,)))
        for junk in few_junk() + [Take, Module.zero(4, 1)]:
            for edit, many in ((Several(junk), 1), (Several(take, junk), 2), (Several(junk, take), 2),
                               (Several(Several(take, Several(junk, take)), take), 4), (Several() + Several(junk), 1)):
                self.check(edit, Q, None)
                self.assertEqual((len(edit), str(edit)), (many, f"{many} edits"))

    def test_thousands_of_parts(self):
        many = 3000
        chain = other = Put(("main", (0,)), SET)
        for _ in range(many):
            chain, other = chain + Take(("main", (0,))) + Put(("main", (0,)), SET), Several(other, Several())
        self.assertEqual(len(chain), 2 * many + 1)
        self.assertEqual(str(chain), f"{2 * many + 1} edits")
        self.assertEqual((len(other), other.applied(Q)), (1, Put(("main", (0,)), SET).applied(Q)))
        again = Put(("main", (0,)), SET)
        for _ in range(many):
            again = Several(again, Several())
        self.assertIs(other == again, True)
        self.assertIs(other == Several(again), False)

    def test_all_together(self):
        edits = [Take(("main", (0,)))] * 300
        self.check(Several(*edits), Q, None)
        edit = Several(*(Put(("main", (0,)), SET) for _ in range(55)))
        self.assertEqual(len(edit.applied(Q)[2][0][4]), 58)
        self.check(edit + Put(("main", (0,)), SET), Q, None)
        self.assertEqual(edit.inverse(Q).applied(edit.applied(Q)), Q)


class Form(Case):
    def edits(self):
        return [
            Edit(), Put(("main", (0,)), SET), Put(("main", (0,)), ("input", "x")), Put(("main", (1,)), SET), Put(1, None),
            Take(("main", (0,))), Take(("main", (1,))), Take(None), Replace(("main", (0,)), SET),
            Replace(("main", (1,)), SET), Replace(("main", (0,)), ("input", "x")), Add(P[2][0]), Add(R[2][1]), Add("f"), Drop("f"), Drop("main"), Drop(None),
            Several(), Several(Take(1)), Several(Take(2)), Several(Take(1), Take(2)), Several(Several(Take(1)), Take(2)),
            Several(Take(1), Several(Take(2))), Several(1, 2), Several(None), Several(Several()), Several(Several(None)),
            Several(Edit()), Take([1]), Take({1: [2]}), Take({}), Take((1,)), Take([1, (2, [3])]), Several([1]),
        ]

    def test_all_stands_in_the_class(self):
        for kind in (Edit, Put, Take, Replace, Add, Drop, Several):
            for name in ("applied", "inverse", "__add__", "__eq__", "__str__", "__len__"):
                self.assertIn(name, vars(kind), kind)
            self.assertTrue(issubclass(kind, Edit))
            self.assertEqual(kind.__module__, "wordlaws.shop.edits")

    def test_equality(self):
        for at, one in enumerate(self.edits()):
            for place, other in enumerate(self.edits()):
                self.assertIs(one == other, at == place)
                self.assertIs(one != other, at != place)
            for junk in much_junk() + [str(one), SET, Edit, Take]:
                self.assertIs(one == junk, False)
        # Arguments are compared by ==.
        self.assertIs(Take(1) == Take(True), True)
        self.assertIs(Put(0, [1]) == Put(False, [True]), True)
        self.assertIs(Several(Take(1)) == Several(Take(True)), True)
        self.assertIs(Several(1) == Several(True), True)
        self.assertIs(Take([1]) == Take((1,)), False)
        self.assertIs(Take(Module.zero(4, 1)) == Take(Module(4, 1, (16 - 16,))), True)

    def test_texts_and_lengths(self):
        self.assertEqual(len(Edit()), 1)
        words = {Put: "put", Take: "take", Replace: "replace", Add: "add", Drop: "drop"}
        for edit in self.edits():
            if type(edit) in words:
                self.assertEqual((str(edit), len(edit)), (words[type(edit)], 1))
        self.assertEqual([str(Several(*[1] * many)) for many in (0, 1, 2, 3)],
                         ["0 edits", "1 edits", "2 edits", "3 edits"])
        self.assertEqual(len(Several(Several(1, 2), Take(3), 4, Several(Several(5)))), 5)
        self.assertEqual(str(Several(Several(1, 2), Take(3), 4, Several(Several(5)))), "5 edits")

    def test_sums(self):
        for one in self.edits():
            for other in self.edits():
                found = one + other
                self.assertEqual(type(found), Several)
                self.assertIs(found == Several(one, other), True)
                self.assertEqual(len(found), len(one) + len(other))
                self.assertIs(found == Several(Several(one, other)), False)

    def test_the_base_class(self):
        for junk in few_junk():
            with self.assertRaises(InvalidProgram):
                Edit().applied(junk)
        self.check(Edit(), Q, None)
        self.check(Several(Edit()), Q, None)

    def test_wrong_programs(self):
        """A wrong program comes first, also where the edit cannot be done."""
        for edit in self.edits():
            for junk in much_junk() + [Q[:2], list(Q), (0,) + Q[1:], (True,) + Q[1:], edit]:
                before = look(junk)
                for function in (edit.applied, edit.inverse):
                    with self.assertRaises(InvalidProgram):
                        function(junk)
                if junk is not edit:
                    self.assertEqual(look(junk), before)

    def test_arguments_are_copied(self):
        """A list or a dict that is changed later does not change the edit."""
        inner = [1]
        value = ({"a": [inner, ({0: inner},)]}, [inner])
        for make in (Take, Drop, Add, lambda new: Put(new, new), lambda new: Replace(new, new), Several,
                     lambda new: Several(Take(new), new, Several(new)), lambda new: Put(0, new)):
            given = copy.deepcopy(value)
            edit, same = make(given), make(copy.deepcopy(value))
            self.assertIs(edit == same, True)
            given[0]["a"][1][0][0].append(2)
            self.assertIs(edit == same, True)
            given[0]["b"] = 3
            given[1].clear()
            self.assertIs(edit == same, True)
            self.assertIs(edit == make(given), False)

    def test_a_list_that_becomes_a_statement(self):
        block = [SET]
        edit = Put(("main", (0,)), ("repeat", block))
        self.check(edit, Q, None)
        block.clear()
        self.check(edit, Q, None)
        point = ["main", (0,)]
        edit = Take(point)
        point[:] = []
        self.check(edit, Q, None)

    def test_the_same_edit_twice(self):
        edit = Put(("main", (0,)), SET)
        one = edit.applied(Q)
        self.assertEqual(edit.applied(R), by_hand(R, ("main", (0,)), (SET,), 0))
        self.assertEqual(edit.applied(Q), one)
        self.assertEqual(edit.applied(one), by_hand(one, ("main", (0,)), (SET,), 0))

    def test_edits_as_arguments(self):
        take = Take(("main", (0,)))
        self.assertIs(Put(take, take) == Put(Take(("main", (0,))), take), True)
        self.check(Put(take, SET), Q, None)
        self.check(Put(("main", (0,)), take), Q, None)
        self.check(Add(take), Q, None)
        self.check(Drop(take), Q, None)
