"""[5.1], [5.2], and [0.1] to [0.5] and [0.9] of the functions on programs."""
import itertools
import unittest

from tests import forms
from tests.examples import ALL, P, Q, R, S
from tests.wrong import check_call, check_is, check_wrong, few_junk, much_junk, width_at
from wordlaws.code import programs
from wordlaws.code.programs import called_by, is_program, make_program, procedure_names, results_of, variables_of
from wordlaws.errors import InvalidProgram, UnknownName

EMPTY = ("main", (), (), (), ())
# What may stand in the place of a part of a program without being of another kind.
PARTS = (
    "main", "f", "g", "x", "a", "stop", "set", "input", "choose", "repeat", "call", "abcdefgh", "abcdefghi", "A", "a1",
    0, 1, 3, 4, 7, 8, 15, 16, 255, 256, (), ("a",), ("x",), ("x", "x"), ("a", "x"), (0, 1), (1, 0, 0), (0, 1, 0, 0, 0),
    ((0, 1),), (("input", "x"),), (("repeat", ()),), ("input", "x"), ("input", "a"), ("input",), ("set", "x", (0, 1)),
    ("choose", ((), ())), ("choose", ((),)), ("choose", ((),) * 4), ("choose", ((),) * 5), ("repeat", ()),
    ("repeat", ((),)), ("repeat", (("repeat", (("repeat", ()),)),)), ("call", (), "none", ()), ("call", (), "main", ()),
    ("call", (), "stop", ()), ("call", ("a",), "f", ((0, 1),)), ("call", (), "f", ((0, 1),)), ("call", ("a",), "f", ()),
    ("set",), ("set", "a"), ("jump", "a"), ("input", "x", "x"), ("repeat",), ("choose",), ("call",), ("repeat", (), ()),
)


def one(width=4, shared=(), parameters=(), own=("x",), results=(), body=(), name="f"):
    """A program with main and one more procedure of these parts."""
    return (width, shared, tuple(sorted(((name, parameters, own, results, body), EMPTY))))


def main_with(*body, own=("x",)):
    return (4, (), (("main", (), own, (), body),))


def nest(kinds):
    """Statements within one another, of these kinds, the first one outermost."""
    statement = ("set", "x", (0, 1))
    for kind in reversed(kinds):
        statement = ("repeat", (statement,)) if kind == "repeat" else ("choose", ((), (statement,)))
    return statement


def changed(value, changes):
    """The value with each of its parts, at any depth, replaced by what `changes` makes of it."""
    yield from changes(value)
    if isinstance(value, tuple):
        for place, part in enumerate(value):
            for new in changed(part, changes):
                yield value[:place] + (new,) + value[place + 1:]


def sequences(value):
    """A tuple with a part left out, doubled, or exchanged with the next one, and as another kind of sequence."""
    if isinstance(value, tuple):
        for place in range(len(value)):
            yield value[:place] + value[place + 1:]
            yield value[:place + 1] + value[place:]
            yield value[:place] + value[place:place + 2][::-1] + value[place + 2:]
        yield list(value)
        yield {place: part for place, part in enumerate(value)}
    elif isinstance(value, str):
        yield from (value + "a", value[1:], value.upper(), value + " ", value + "\n", [value], (value,))
    else:
        yield from (value + 1, value - 1, -value, bool(value), str(value), [value], (value,), 2 * value + 1)


def program_at(place):
    return lambda args: None if forms.is_program(args[place]) else (InvalidProgram,)


def name_at(place):
    def check(args):
        known = [procedure[0] for procedure in args[place - 1][2]]
        return None if args[place] in known else (UnknownName, "name", args[place])
    return check


class Kinds(unittest.TestCase):
    def check(self, value, right):
        self.assertIs(forms.is_program(value), right, value)
        self.assertIs(is_program(value), right, value)

    def test_constants(self):
        names = ("PROCEDURES", "VARIABLES", "RESULTS", "STATEMENTS", "NEST", "BLOCKS")
        self.assertEqual([getattr(programs, "MAX_" + name) for name in names], [6, 4, 2, 60, 3, 4])

    def test_examples(self):
        for program in ALL:
            self.check(program, True)
        check_is(self, is_program, (P,), [], forms.is_program)

    def test_widths(self):
        for width in range(-2, 20):
            self.check((width, (), (EMPTY,)), 1 <= width <= 16)
        for width in range(1, 17):
            for word in (0, 1, 2 ** width - 2, 2 ** width - 1, 2 ** width, 2 ** width + 1, -1, True):
                right = type(word) is int and 0 <= word < 2 ** width
                for row in ((word, 0), (0, word)):
                    self.check((width, (), (("main", (), ("x",), (), (("set", "x", row),)),)), right)

    def test_procedures(self):
        names = ["a", "b", "k", "main", "n", "z", "zz"]
        for many in range(8):
            value = (1, (), tuple((name, (), (), (), ()) for name in names[:many]))
            self.check(value, 4 <= many <= 6)
        self.check((1, (), (EMPTY, EMPTY)), False)
        self.check((1, (), (EMPTY, ("a", (), (), (), ()))), False)
        self.check((1, (), ()), False)
        self.check((1, (), EMPTY), False)
        self.check((1, (), (("mainly", (), (), (), ()),)), False)

    def test_main_has_no_parameters_and_results(self):
        self.check((1, (), (("main", ("a",), (), (), ()),)), False)
        self.check((1, (), (("main", (), ("a",), ("a",), ()),)), False)
        self.check((1, (), (("main", (), ("a",), (), ()),)), True)
        call = ("call", (), "main", ())
        self.check((1, (), (("main", (), (), (), (call,)),)), False)

    def test_names(self):
        for name, right in (("a", True), ("z", True), ("abcdefgh", True), ("abcdefghi", False), ("", False),
                            ("A", False), ("a1", False), ("a_b", False), ("a b", False), (" a", False), ("a\n", False),
                            ("\u00e9", False), ("`", False), ("{", False), (b"a", False), (None, False), (1, False)):
            self.check(one(name=name) if type(name) is str else (4, (), ((name, (), (), (), ()), EMPTY)), right)
            self.check(one(shared=(name,)), right)
            self.check(one(parameters=(name,)), right)
            self.check(one(own=(name,)), right)
            self.check(one(own=(name,), results=(name,)), right)

    def test_a_procedure_and_a_variable_may_have_one_name(self):
        self.check(one(shared=("f",), own=("main",), results=("main",)), True)

    def test_variables(self):
        names = ("a", "b", "c", "d", "e")
        for shared, parameters, own in itertools.product(range(6), repeat=3):
            total = shared + parameters + own
            if total > 5:
                continue
            parts = (names[:shared], names[shared:shared + parameters], names[shared + parameters:total])
            self.check(one(4, *parts), total <= 4)
        for parts in ((("a", "a"), (), ()), (("a",), ("a",), ()), (("a",), (), ("a",)), ((), ("a",), ("a",)),
                      ((), ("a", "a"), ()), ((), (), ("a", "a"))):
            self.check(one(4, *parts), False)
        self.check((4, ("a", "b", "c", "d", "e"), (EMPTY,)), False)
        self.check((4, ("a", "b", "c", "d"), (EMPTY,)), True)

    def test_results(self):
        parts = (("g",), ("p",), ("x", "y"))
        for results, right in (((), True), (("p",), True), (("y", "p"), True), (("x", "y"), True), (("g",), False),
                               (("p", "g"), False), (("p", "p"), False), (("p", "x", "y"), False), (("q",), False)):
            self.check(one(4, *parts, results), right)

    def test_number_of_statements(self):
        step = ("set", "x", (0, 1))
        for many in (0, 59, 60, 61, 100):
            self.check(main_with(*(step,) * many), many <= 60)
        for many in (58, 59, 60):
            self.check(main_with(("repeat", (step,) * many)), many <= 59)
            self.check(main_with(("choose", ((step,) * 20, (step,) * (many - 20)))), many <= 59)
            self.check(main_with(("repeat", (("repeat", (step,) * (many - 1)),))), many <= 59)
        for many in (29, 30, 31):
            program = (4, (), (("f", (), ("x",), (), (step,) * 30), ("main", (), ("x",), (), (step,) * many)))
            self.check(program, many <= 30)
        self.check(main_with(*(("choose", ((), ())),) * 60), True)
        self.check(main_with(*(("repeat", ()),) * 61), False)

    def test_nested_statements(self):
        for many in range(6):
            for kinds in itertools.product(("repeat", "choose"), repeat=many):
                self.check(main_with(nest(kinds)), many <= 3)
                self.check(main_with(("input", "x"), nest(kinds), ("input", "x")), many <= 3)
        self.check(main_with(nest(("repeat",) * 3), nest(("choose",) * 3)), True)

    def test_number_of_blocks(self):
        for many in range(7):
            self.check(main_with(("choose", ((),) * many)), 2 <= many <= 4)
            self.check(main_with(("choose", ((("input", "x"),),) * many)), 2 <= many <= 4)
            self.check(main_with(("choose",) + ((),) * many), False)
        self.check(main_with(("choose", [(), ()])), False)
        self.check(main_with(("choose", ((), ()), ())), False)

    def test_sets_and_inputs(self):
        for statement, right in (
            (("set", "x", (0, 1, 0)), True), (("set", "z", (0, 1, 0)), False), (("set", "x", (0, 1)), False),
            (("set", "x", (0, 1, 0, 0)), False), (("set", "x", [0, 1, 0]), False), (("set", "x", (0, 1, True)), False),
            (("set", ("x",), (0, 1, 0)), False), (("set", "x"), False), (("set", "x", (0, 1, 0), 0), False),
            (["set", "x", (0, 1, 0)], False), (("SET", "x", (0, 1, 0)), False), ((("set",), "x", (0, 1, 0)), False),
            (("input", "y"), True), (("input", "f"), False), (("input", "y", "x"), False), (("input",), False),
            (("input", ("y",)), False), (("input", None), False), ((), False), ("input", False), (None, False),
            (("",), False), (([],), False), (({}, "x"), False), ((("input", "x"),), False),
        ):
            self.check(main_with(statement, own=("x", "y")), right)
            self.check(main_with(("repeat", (statement,)), own=("x", "y")), right)
            self.check(main_with(("choose", ((), (statement,))), own=("x", "y")), right)

    def test_calls(self):
        f = ("f", ("a", "b"), (), ("a", "b"), ())
        row = (0, 1, 0)
        for statement, right in (
            (("call", ("x", "y"), "f", (row, row)), True), (("call", ("y", "x"), "f", (row, row)), True),
            (("call", ("x", "x"), "f", (row, row)), False), (("call", ("x",), "f", (row, row)), False),
            (("call", ("x", "y", "x"), "f", (row, row)), False), (("call", (), "f", (row, row)), False),
            (("call", ("x", "a"), "f", (row, row)), False), (("call", ("x", "y"), "f", (row,)), False),
            (("call", ("x", "y"), "f", (row, row, row)), False), (("call", ("x", "y"), "f", ()), False),
            (("call", ("x", "y"), "g", (row, row)), False), (("call", ("x", "y"), "main", (row, row)), False),
            (("call", (), "main", ()), False), (("call", ["x", "y"], "f", (row, row)), False),
            (("call", ("x", "y"), "f", [row, row]), False), (("call", ("x", "y"), ("f",), (row, row)), False),
            (("call", ("x", "y"), [], (row, row)), False), (("call", ("x", "y"), None, (row, row)), False),
            (("call", ("x", ["y"]), "f", (row, row)), False), (("call", ("x", "y"), "f", (row, (0, 1))), False),
            (("call", ("x", "y"), "f", (row, (0, 1, 16))), False), (("call", ("x", "y"), "f", (row, None)), False),
            (("call", ("x", "y"), "f"), False), (("call", ("x", "y"), "f", (row, row), ()), False),
            (("call", "xy", "f", (row, row)), False), (("call", ("x", True), "f", (row, row)), False),
        ):
            self.check((4, (), (f, ("main", (), ("x", "y"), (), (statement,)))), right)

    def test_one_part_replaced(self):
        for program in ALL:
            for value in changed(program, lambda part: list(PARTS)):
                self.check(value, forms.is_program(value))
            for value in changed(program, lambda part: few_junk()):
                self.check(value, forms.is_program(value))
        for value in changed(Q, lambda part: much_junk()):
            self.check(value, forms.is_program(value))

    def test_one_part_left_out_doubled_or_of_another_kind(self):
        rights = 0
        for program in ALL:
            for value in changed(program, sequences):
                right = forms.is_program(value)
                rights += right
                self.check(value, right)
        self.assertGreater(rights, 20)


class Makes(unittest.TestCase):
    def test_any_order(self):
        for program in ALL:
            width, shared, procedures = program
            for order in itertools.permutations(procedures):
                self.assertEqual(make_program(width, *order, shared=shared), program)
                if not shared:
                    self.assertEqual(make_program(width, *order), program)
        self.assertEqual(make_program(1, EMPTY), (1, (), (EMPTY,)))

    def test_shared_is_needed(self):
        with self.assertRaises(InvalidProgram):
            make_program(4, *R[2])
        with self.assertRaises(TypeError):
            make_program()

    def test_no_program(self):
        main = Q[2][0]
        for procedures in ((), (main, main), P[2] + P[2], (P[2][0],), (main, 1), (None, main), (main, ()), (main, []),
                           (main, ("f",)), (main, list(P[2][0])), (main, (1, (), (), (), ())), (main, main[:4]),
                           (main, ([], (), (), (), ())), (main, main + ((),)), tuple(P[2][0] for _ in range(7)), P[2][0]):
            with self.assertRaises(InvalidProgram):
                make_program(8, *procedures)
        for shared in few_junk() + [["g"], ("x",), ("g", "g"), ("G",), ("g", "h", "i")]:
            if shared != ():
                with self.assertRaises(InvalidProgram):
                    make_program(8, main, shared=shared)

    def test_wrong_arguments(self):
        def made(width, first, second, shared):
            return make_program(width, first, second, shared=shared)

        def check(args):
            width, first, second, shared = args
            orders = ((first, second), (second, first))
            right = any(forms.is_program((width, shared, order)) for order in orders)
            return None if right else (InvalidProgram,)

        check_wrong(self, made, (4, R[2][1], R[2][0], ("g",)), [width_at(0), check])
        for width in (0, 17, True, None, 10 ** 39):
            check_call(self, make_program, [width_at(0)], (width, None), {"shared": None})


class Reads(unittest.TestCase):
    def test_names_and_variables(self):
        self.assertEqual([procedure_names(program) for program in (P, Q, S)],
                         [("f", "main"), ("main",), ("longname", "main", "none", "z")])
        self.assertEqual(variables_of(S, "longname"), ("g", "h", "p", "longname"))
        self.assertEqual(variables_of(S, "main"), ("g", "h", "x", "set"))
        self.assertEqual(variables_of(S, "none"), ("g", "h"))
        self.assertEqual(variables_of(S, "z"), ("g", "h", "x", "y"))
        self.assertEqual(variables_of((1, (), (EMPTY,)), "main"), ())

    def test_results(self):
        self.assertEqual([results_of(S, name) for name in procedure_names(S)], [("longname", "p"), (), (), ("y", "x")])

    def test_called_by(self):
        self.assertEqual([called_by(S, name) for name in procedure_names(S)],
                         [("z",), ("longname", "none", "z"), (), ("none",)])
        self.assertEqual([called_by(P, "f"), called_by(P, "main"), called_by(Q, "main")], [("f",), ("f",), ()])

    def test_called_in_nested_blocks(self):
        def call(name):
            return ("call", (), name, ())

        others = tuple((name, (), (), (), ()) for name in ("a", "b", "c", "d", "n"))
        bodies = (
            ((call("d"), call("a"), call("d")), ("a", "d")),
            ((("repeat", (call("n"), ("repeat", (call("b"), ("repeat", (call("a"),)))))),), ("a", "b", "n")),
            ((("choose", ((call("d"),), (), (call("c"), ("choose", ((), (call("a"),)))), (call("b"),))),),
             ("a", "b", "c", "d")),
            ((("choose", ((), ())), ("repeat", ()), call("n")), ("n",)),
        )
        for body, names in bodies:
            program = make_program(4, ("main", (), (), (), body), *others)
            self.assertEqual(called_by(program, "main"), names)
            self.assertEqual(called_by(program, "n"), ())

    def test_wrong_arguments(self):
        check_wrong(self, procedure_names, (S,), [program_at(0)])
        for function in (variables_of, results_of, called_by):
            check_wrong(self, function, (S, "z"), [program_at(0), name_at(1)])
            for name in ("mai", "mainn", "Z", "", "g", "x", ("z",), ["z"], {"z": 1}, None, 0, True, S):
                check_call(self, function, [program_at(0), name_at(1)], (S, name))
                check_call(self, function, [program_at(0)], (S[:2], name))

    def test_examples(self):
        self.assertEqual(procedure_names(R), ("main", "stop"))
        self.assertEqual(variables_of(R, "main"), ("g", "x"))
        self.assertEqual(results_of(P, "f"), ("a",))
        self.assertEqual(called_by(R, "stop"), ("stop",))
