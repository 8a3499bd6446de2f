"""[18.1] and [18.2], and [0.1] to [0.6] of the shell."""
import itertools
import unittest

from tests import brute, forms, plain
from tests.examples import ALL, P, Q, R
from tests.making import ENDLESS, NESTED, SWAPS, some_programs
from tests.test_edits import some_edits
from tests.test_formats import SPOKEN, changed_texts, in_words, lines_of, row_in_words
from tests.test_invariants import some_rows
from tests.wrong import much_junk
from wordlaws.errors import InvalidCommand, InvalidEdit, NothingToUndo, ParseError, UnknownName
from wordlaws.facts.facts import endless_procedures, same_bits, unreachable_points
from wordlaws.facts.fewest import fewest_variables
from wordlaws.invariants.contracts import contract_basis
from wordlaws.invariants.invariants import invariant_basis, is_breaking_trail, is_invariant
from wordlaws.runs.trails import is_trail
from wordlaws.shop.edits import Put, Replace, Take
from wordlaws.shop.workshop import Workshop
from wordlaws.text.formats import parse_trail, point_text, program_text, row_text
from wordlaws.text.shell import Shell

SMALL = tuple(program for width in (1, 2, 4, 8) for program in some_programs(10, width, 12))
ALONE = ("endless", "text", "unreachable")
REST = ("contracts", "invariants", "observed", "status", "take", "undo", "unwatch")
PARTS = ("bits", "fewest", "invariant", "put", "replace", "watch")
FIRST = "program\n" + program_text(Q)


def lines(some):
    return "\n".join(some) or "none"


def news_text(news):
    return ", ".join(f"{name} {status}" for name, status in news) or "none"


def statement_line(program, name, statement):
    """The line of a set, an input or a call."""
    return next(lines_of(program, name, (statement,), 0))


class Case(unittest.TestCase):
    def seen(self, shell):
        """All that can be seen of a shell; a twin shows its workshop."""
        twin = shell.twin()
        if twin is None:
            return len(shell), str(shell)
        return (len(shell), str(shell), twin.program, list(twin.history()), twin.watches(),
                [twin.status(name) for name in twin.watches()])

    def refused(self, shell, error, command):
        """The command raises the error, with its value, and the shell stays as it was."""
        before = self.seen(shell)
        with self.assertRaises(type(error)) as caught:
            shell.run(command)
        self.assertIs(type(caught.exception), type(error), command)
        if not isinstance(error, ValueError):
            self.assertEqual(vars(caught.exception), vars(error))
        self.assertEqual(self.seen(shell), before)

    def shell_with(self, program, *commands):
        shell = Shell()
        self.assertEqual(shell.run("program\n" + program_text(program)), "ok")
        shell.run_all(*commands)
        return shell


class Form(Case):
    def test_all_stands_in_the_class(self):
        for name in ("run", "run_all", "twin", "__len__", "__str__", "__init__", "WORDS"):
            self.assertIn(name, vars(Shell))
        self.assertEqual(Shell.WORDS, tuple(sorted(ALONE + REST + PARTS + ("program",))))
        self.assertEqual(Shell().WORDS, Shell.WORDS)

    def test_example(self):
        shell = Shell()
        self.assertEqual(shell.run_all(
            FIRST, "invariants main 3", "invariant main 3: 2*x + 254*y", "bits main 2.0.1: x + 255*y",
            "watch same main 3: x + 255*y", "take main 2.0.1", "undo 1",
        ), ("ok", "x + 255*y", "invariant", "8 1", "invariant", "same broken", "same invariant"))
        self.assertEqual((len(shell), str(shell)), (7, "shell after 7 commands"))

    def test_the_count(self):
        shell = Shell()
        self.assertEqual((len(shell), str(shell), shell.twin()), (0, "shell after 0 commands", None))
        self.refused(shell, InvalidCommand(""), "text")
        self.refused(shell, ParseError(""), "program\n")
        shell.run(FIRST)
        self.assertEqual((len(shell), str(shell)), (1, "shell after 1 commands"))
        self.refused(shell, NothingToUndo(0), "undo 1")
        shell.run(FIRST)
        self.refused(shell, ParseError(""), FIRST + " ")
        shell.run("text")
        self.assertEqual((len(shell), str(shell)), (3, "shell after 3 commands"))

    def test_run_all(self):
        shell = Shell()
        self.assertEqual(shell.run_all(), ())
        with self.assertRaises(NothingToUndo) as caught:
            shell.run_all(FIRST, "take main 2.0.1", "undo 2", "take main 0", None)
        self.assertEqual(caught.exception.count, 1)
        self.assertEqual(len(shell), 2)
        self.assertEqual(shell.twin().steps, 1)
        with self.assertRaises(InvalidCommand):
            shell.run_all("undo 1", 5, "undo 1")
        self.assertEqual((len(shell), shell.twin().program), (3, Q))

    def test_twins(self):
        shell = self.shell_with(Q, "watch same main 3: x + 255*y", "take main 2.0.1")
        twin = shell.twin()
        self.assertEqual(type(twin), Workshop)
        twin.undo()
        twin.unwatch("same")
        self.assertEqual((shell.twin().steps, shell.run("status same")), (1, "broken"))
        other = shell.twin()
        shell.run("undo 1")
        self.assertEqual((other.steps, other.status("same")), (1, "broken"))
        self.assertIs(shell.twin() == shell.twin(), True)
        self.assertIs(shell.twin() == other, False)

    def test_a_new_program(self):
        """The workshop is new: without watches, and without steps."""
        shell = self.shell_with(Q, "watch same main 3: x + 255*y", "take main 2.0.1")
        self.assertEqual(shell.run("program\n" + program_text(P)), "ok")
        self.assertIs(shell.twin() == Workshop(P), True)
        self.refused(shell, UnknownName("same"), "status same")
        self.refused(shell, NothingToUndo(0), "undo 1")


class Questions(Case):
    def check_program(self, shell, program, number):
        """All that can be asked of a program, against the functions."""
        self.assertEqual(shell.run("text"), in_words(program))
        self.assertEqual(shell.run("unreachable"), lines([
            f"{name} {'.'.join(map(str, place))}" for name, place in unreachable_points(program)]))
        self.assertEqual(shell.run("endless"), lines(endless_procedures(program)))
        for name in plain.names(program):
            for word, observed in (("contracts", False), ("observed", True)):
                basis = contract_basis(program, name, observed=observed)
                self.assertEqual(shell.run(f"{word} {name}"), lines([" ".join(map(str, row)) for row in basis]))
        for point in plain.points(program)[number % 4::4]:
            self.check_point(shell, program, point, number)

    def check_point(self, shell, program, point, number):
        name, place = point
        where = f"{name} {'.'.join(map(str, place))}"
        basis = invariant_basis(program, point)
        self.assertEqual(shell.run(f"invariants {where}"), lines([row_in_words(program, name, row) for row in basis]))
        for row in some_rows(program, name, number, 2) + list(basis[:1]) + [(0,) * plain.state_size(program, name)]:
            what = f"{where}: {row_in_words(program, name, row)}"
            self.assertEqual(shell.run(f"bits {what}"), "{} {}".format(*same_bits(program, point, row)))
            numbers, new = fewest_variables(program, point, row)
            names = ",".join(plain.variables(program, name)[at - 1] for at in numbers) or "-"
            found = shell.run(f"fewest {what}")
            self.assertEqual(found, f"{names}: {row_in_words(program, name, new)}")
            found = shell.run(f"invariant {what}")
            if is_invariant(program, point, row):
                self.assertEqual(found, "invariant")
            else:
                trail = parse_trail(program, found)
                self.assertTrue(is_trail(program, trail) and is_breaking_trail(program, point, row, trail))

    def test_all_questions(self):
        for number, program in enumerate(SMALL + ALL + (SPOKEN, NESTED, SWAPS, ENDLESS)):
            shell = self.shell_with(program)
            self.check_program(shell, program, number)
            self.assertIs(shell.twin() == Workshop(program), True)

    def test_nothing_to_list(self):
        shell = self.shell_with((2, (), (("main", (), (), (), (("repeat", ()),)),)))
        for command in ("unreachable", "endless", "invariants main 1", "contracts main", "observed main"):
            self.assertEqual(shell.run(command), "none")
        self.assertEqual(shell.run("fewest main 1: 3"), "-: 3")
        self.assertEqual(shell.run("bits main 1: 3"), "2 3")
        self.assertEqual(shell.run("invariant main 1: 3"), "frame 0")

    def test_several_lines(self):
        shell = self.shell_with(R)
        self.assertEqual(shell.run_all("unreachable", "endless", "invariants main 2", "contracts stop"), (
            "main 2\nstop 2", "main\nstop", "1\ng\nx", "1 0 0\n0 1 0\n0 0 1"))
        shell = self.shell_with(P)
        self.assertEqual(shell.run_all("contracts f", "observed f", "fewest f 1: 9 + a"),
                         ("0 8 8", "0 8 0\n0 0 8", "a: 9 + a"))


class Deeds(Case):
    def test_walks(self):
        """The shell does what a workshop does, and tells the same news, or raises the same errors."""
        done = 0
        for number, program in enumerate(SMALL + ALL + (SPOKEN,)):
            source = brute.seeded(number)
            shell, workshop = self.shell_with(program), Workshop(program)
            for at in range(25):
                now = workshop.program
                name, place = point = source.choice(plain.points(now))
                where = point_text(now, point)
                word = source.choice(("put", "replace", "take", "undo", "watch", "unwatch", "status"))
                title = source.choice(("a", "b", "watch", "undo"))
                row = some_rows(now, name, at, 1)[0]
                if word in ("put", "replace"):
                    statement = self.some_statement(now, name, source)
                    command = f"{word} {where}: {statement_line(now, name, statement)}"
                    deed = (Put if word == "put" else Replace)(point, statement)
                    done += self.same(shell, command, lambda: news_text(workshop.do(deed)))
                elif word == "take":
                    done += self.same(shell, f"take {where}", lambda: news_text(workshop.do(Take(point))))
                elif word == "undo":
                    many = source.choice((1, 1, 2))
                    done += self.same(shell, f"undo {many}", lambda: news_text(workshop.undo(many=many)))
                elif word == "watch":
                    command = f"watch {title} {where}: {row_text(now, name, row)}"
                    done += self.same(shell, command, lambda: workshop.watch(title, point, row))
                elif word == "unwatch":
                    done += self.same(shell, f"unwatch {title}", lambda: workshop.unwatch(title) or "ok")
                else:
                    done += self.same(shell, f"status {title}", lambda: workshop.status(title))
                self.assertIs(shell.twin() == workshop, True)
            Questions.check_program(self, shell, workshop.program, number)
        self.assertGreater(done, 400)

    check_point = Questions.check_point

    def some_statement(self, program, name, source):
        """A set, an input or a call that fits."""
        variables = plain.variables(program, name)
        kinds = [kind for kind in ("set", "input") if variables] + ["call"] * 2
        for _ in range(20):
            kind, row = source.choice(kinds), some_rows(program, name, source.randrange(999), 1)[0]
            if kind != "call":
                return (kind, source.choice(variables)) + ((row,) if kind == "set" else ())
            callee = source.choice(program[2])
            if callee[0] != "main" and len(callee[3]) <= len(variables):
                targets = tuple(source.sample(variables, len(callee[3])))
                return kind, targets, callee[0], tuple(row for _ in callee[1])
        return ("call", (), "nothere", ())

    def same(self, shell, command, deed):
        """Both give the same result, or raise the same error with the same value."""
        try:
            expected, error = deed(), None
        except (InvalidEdit, UnknownName, NothingToUndo) as caught:
            error = caught
        if "nothere" in command:
            error = ParseError("")
        if error is None:
            self.assertEqual(shell.run(command), expected)
            return True
        self.refused(shell, error, command)
        return False

    def test_errors_of_the_workshop(self):
        shell = self.shell_with(P, "watch even main 1: 8*x")
        for command, error in (
            ("contracts lost", UnknownName("lost")), ("observed x", UnknownName("x")), ("status odd", UnknownName("odd")),
            ("unwatch main", UnknownName("main")), ("watch even main 1: 8*x", InvalidEdit("")),
            ("watch even f 1: a", InvalidEdit("")), ("take main 1", InvalidEdit("")), ("take f 0.0.0", InvalidEdit("")),
            ("replace main 1: input x", InvalidEdit("")), ("undo 1", NothingToUndo(0)), ("undo 17", NothingToUndo(0)),
        ):
            self.refused(shell, error, command)
        full = (2, (), (("main", (), ("x",), (), (("input", "x"),) * 60),))
        shell = self.shell_with(full)
        self.refused(shell, InvalidEdit(""), "put main 7: set x = 1")
        self.assertEqual(shell.run_all("take main 7", "put main 7: set x = 1", "replace main 7: set x = 0"), ("none",) * 3)

    def test_undo_with_many_digits(self):
        shell = self.shell_with(Q, *["take main 0"] * 3)
        for digits in ("4", "12", "9" * 18, "1" + "0" * 18, "9" * 40, "9" * 4299, "9" * 4300, "9" * 4301, "1" + "0" * 90000):
            self.refused(shell, NothingToUndo(3), "undo " + digits)
        for digits in ("", "0", "00", "01", "-1", "+1", "1.0", " 1", "1 ", "1_0", "x", "\u0661", "\u00b2", "1\n", "0x1",
                       "0" * 5000, "0" * 5000 + "1", "1" * 5000 + "x", "1: 1", "many=1", "1,1", "True"):
            self.refused(shell, ParseError(""), "undo " + digits)
        self.assertEqual((shell.run("undo 3"), shell.twin().program), ("none", Q))

    def test_statements(self):
        """Only sets, inputs and calls that fit, each as its one line."""
        shell = self.shell_with(SPOKEN)
        for line in ("set x = 0", "set set = 7 + globals + 3*x", "input procedur", "call repeat()", "call call(x)", "call width()",
                     "call x,set = block(0)", "call globals,procedur = block(1 + x)", "call call(5*set + x)"):
            for word in ("put", "replace"):
                self.assertEqual(shell.run_all(f"{word} main 1: {line}", "undo 1"), ("none", "none"))
        for line in ("", " ", "set", "set x", "set x =", "set x = ", "set x = x + 0", "set x =x", "set  x = x", " set x = 0",
                     "set x = 0 ", "set input = 0", "set lost = 0", "set x = 8", "set x = 1*x", "Set x = 0", "set x = 0\n",
                     "set x = 0\n  set x = 0", "input", "input ", "input lost", "input x ", "input x,set", "repeat", "choose",
                     "choose\n  block\n  block", "block", "call", "call ", "call repeat", "call repeat(", "call repeat)",
                     "call main()", "call lost()", "call call()", "call call(0, 0)", "call call(0,)", "call x = call(0)",
                     "call x = block(0)", "call x,x = block(0)", "call x, set = block(0)", "call lost,x = block(0)",
                     "call - = repeat()", "call  = repeat()", "call repeat() ", "call repeat()()", "call (0)", "call ()",
                     "procedure f parameters - locals - results -", "width 3", "x = 0", "set x = 0: 0", "call call(0 )"):
            for word in ("put", "replace"):
                self.refused(shell, ParseError(""), f"{word} main 1: {line}")

    def test_statements_of_the_present_program(self):
        """The procedure, the callee and the width are those of the program at that time."""
        shell = self.shell_with(P)
        self.refused(shell, ParseError(""), "put main 0: set a = 1")
        self.assertEqual(shell.run("put f 0: set a = 1"), "none")
        self.refused(shell, ParseError(""), "put f 0: set x = 1")
        self.refused(shell, ParseError(""), "put f 0: set a = 16")
        self.refused(shell, ParseError(""), "put f 0.2.0: set a = 1")
        shell.run("program\n" + program_text(Q))
        self.assertEqual(shell.run("put main 0: set x = 16"), "none")
        self.refused(shell, ParseError(""), "put f 0: set a = 1")
        self.refused(shell, ParseError(""), "put main 0: call x = f(0)")


class Commands(Case):
    def form_of(self, command):
        """Whether a command has the form that belongs to its word, word for word."""
        if type(command) is not str:
            return False
        if command.startswith("program\n"):
            return True
        if command in ALONE:
            return True
        word = command[:command.index(" ")] if " " in command else ""
        if word in REST:
            return True
        return word in PARTS and ": " in command[len(word) + 1:]

    def test_without_a_program(self):
        """Without a program all commands but `program` are refused, also those whose parts are no texts."""
        shell = Shell()
        for command in ("text", "endless", "unreachable", "undo 1", "undo", "undo x", "invariants main 0", "status a",
                        "bits main 0: 0", "watch a main 0: 0", "watch", "program", "program ", "", " ", "lost"):
            self.refused(shell, InvalidCommand(""), command)
        for junk in much_junk():
            self.refused(shell, InvalidCommand(""), junk)
        for command in ("program\n", "program\n\n", "program\ntext", "program\nwidth 4"):
            self.refused(shell, ParseError(""), command)

    def test_without_a_form(self):
        shell = self.shell_with(Q)
        commands = ["", " ", "\n", "lost", "lost main 0", "Text", "text ", " text", "text\n", "text x", "text: x", "program",
                    "program ", "program " + program_text(Q), "program: x", "Program\nwidth 4", "program\r\nwidth 4",
                    " " + FIRST, "endless ", "unreachable main", "endless\n", "unreachables", "tex", "program\twidth 4"]
        commands += list(REST) + list(PARTS) + [word + "\n" for word in REST + PARTS]
        commands += [word + ":" for word in REST + PARTS] + [word + "\tmain 0" for word in REST + PARTS]
        commands += [f"{word} main 0" for word in PARTS] + [f"{word} main 0:x" for word in PARTS]
        commands += [f"{word} " for word in PARTS] + [f"{word} :" for word in PARTS] + [f"{word}: x" for word in PARTS]
        commands += [f"{word} main 0 : x".replace(": ", ":") for word in PARTS] + [f"{word} main 0:\nx" for word in PARTS]
        for command in commands:
            self.assertFalse(self.form_of(command), command)
            self.refused(shell, InvalidCommand(""), command)
        for junk in much_junk() + [b"text", ["text"], ("text",)]:
            self.refused(shell, InvalidCommand(""), junk)

    def test_parts_that_are_no_texts(self):
        shell = self.shell_with(Q, "watch same main 3: x + 255*y")
        commands = [f"{word} " for word in REST] + [f"{word} : " for word in PARTS]
        commands += [f"{word}  " for word in REST] + [f"{word}  : " for word in PARTS]
        for word in ("take", "invariants"):
            commands += [f"{word} {where}" for where in ("main", "main 4", "main 0 ", " main 0", "main 0: x", "main 00", "x 0",
                                                         "main 2.0", "main 2.0.3", "main 0\n", "main  0", "0", "MAIN 0")]
        for word in ("contracts", "observed", "status", "unwatch"):
            commands += [f"{word} {name}" for name in ("Main", "main ", " main", "main 0", "ninechars", "a,b", "m1", "-", "a\n",
                                                       "\u00e4", "a: b", "1", "mainmainmain")]
        for word in PARTS:
            name = "new " if word == "watch" else ""
            what = "input x" if word in ("put", "replace") else "x"
            commands += [f"{word} {name}{where}: {what}" for where in (
                "", "main", "main 4", " main 0", "main 0 ", "main 00", "x 0", "main 2.0.3", "main 0:", "main 0\n")]
            commands += [f"{word} {name}main 0: {part}" for part in (
                "", " ", "x ", " x", "z", "1*x", "y + x", "x: y", "x\n", "input", "set x", "256", "input z", "repeat")]
        commands += [f"watch {name}main 0: x" for name in ("", "New ", "ninechars ", "n1 ", " ", "new  ", "a b ", "-")]
        commands += ["watch new: x", "watch newmain 0: x", "watch main 0: x", "watch : x", "watch new : x"]
        for command in commands:
            self.assertTrue(self.form_of(command), command)
            self.refused(shell, ParseError(""), command)

    def test_several_faults(self):
        """First the form, then the parts, then the workshop."""
        shell = self.shell_with(P, "watch even main 1: 8*x")
        for command, error in (
            ("watch even main 1 8*x", InvalidCommand("")), ("watch even main 9: 8*x", ParseError("")),
            ("watch even main 1: 16*x", ParseError("")), ("watch Even main 9: z", ParseError("")),
            ("watch even main 1: 8*x", InvalidEdit("")), ("watch even main 1: 4*x", InvalidEdit("")),
            ("replace main 1: input a", ParseError("")), ("replace main 1: input x", InvalidEdit("")),
            ("replace main 1 input x", InvalidCommand("")), ("undo 0", ParseError("")), ("undo 9", NothingToUndo(0)),
            ("take main 2", ParseError("")), ("take main 1", InvalidEdit("")), ("status Even", ParseError("")),
            ("status odd", UnknownName("odd")), ("program", InvalidCommand("")), ("program\n" + program_text(P) + "\n", ParseError("")),
        ):
            self.refused(shell, error, command)

    def test_the_first_colon_counts(self):
        shell = self.shell_with(Q)
        for command in ("bits main 0: x: y", "bits main 0: : x", "watch a main 0: x: y", "put main 0: input x: y"):
            self.refused(shell, ParseError(""), command)

    def test_names_that_are_words(self):
        shell = self.shell_with(SPOKEN)
        names = [word for word in Shell.WORDS if forms.is_name(word)] + ["main", "none", "ok", "x", "globals"]
        for name in names:
            self.assertEqual(shell.run_all(f"watch {name} repeat 0: repeat", f"status {name}"),
                             ("broken" if not is_invariant(SPOKEN, ("repeat", (0,)), (0, 0, 0, 1, 0)) else "invariant",) * 2)
        self.assertEqual(list(shell.twin().watches()), sorted(names))
        found = shell.run("take main 0")
        self.assertEqual(found, "none" if found == "none" else ", ".join(sorted(found.split(", "))))
        for name in names:
            self.assertEqual(shell.run(f"unwatch {name}"), "ok")
            self.refused(shell, UnknownName(name), f"status {name}")
        self.assertEqual(shell.run("invariants call 0"), lines([
            row_in_words(SPOKEN, "call", row) for row in invariant_basis(shell.twin().program, ("call", (0,)))]))

    def test_news(self):
        shell = self.shell_with(Q, "watch b main 3: x + 255*y", "watch a main 3: 2*x + 254*y", "watch c main 0: x")
        self.assertEqual(shell.run_all("take main 2.0.1", "undo 1", "take main 2", "undo 1", "put main 1: input y"),
                         ("a broken, b broken", "a invariant, b invariant", "a gone, b gone", "a invariant, b invariant",
                          "none"))
        self.assertEqual(shell.run_all("take main 2", "put main 0: input x", "undo 3"),
                         ("a broken, b broken", "none", "a invariant, b invariant"))

    def test_changed_commands(self):
        """Whatever is changed, a command has a result, or one of the errors; without its form it is refused."""
        commands = ("watch same main 3: x + 255*y", "put main 0: set x = 3 + y", "take main 2.0.1", "undo 1", "text",
                    "bits main 2.0.1: x + 255*y", "contracts main", "program\nwidth 1")
        for number, command in enumerate(commands):
            for new in changed_texts(command, brute.seeded(number), 25):
                shell = self.shell_with(Q, "take main 0", "take main 0")
                before = self.seen(shell)
                try:
                    self.assertEqual(type(shell.run(new)), str)
                    self.assertTrue(self.form_of(new))
                except InvalidCommand:
                    self.assertFalse(self.form_of(new), new)
                    self.assertEqual(self.seen(shell), before)
                except (ParseError, InvalidEdit, UnknownName, NothingToUndo):
                    self.assertTrue(self.form_of(new), new)
                    self.assertEqual(self.seen(shell), before)

    def test_long_commands(self):
        shell = self.shell_with(Q)
        for many in (1000, 100000):
            for word, part in itertools.product(REST + PARTS, ("a", "0", " ", ".0", "main 0", "\n", "9")):
                tail = ": x" if word in PARTS else ""
                error = NothingToUndo(0) if (word, part) == ("undo", "9") else ParseError("")
                self.refused(shell, error, f"{word} {part * many}{tail}")
            for part in ("a", " ", "\n", ": ", "text", "text ", "program "):
                self.refused(shell, InvalidCommand(""), part * many)
            self.refused(shell, ParseError(""), "program\n" * many)
            self.refused(shell, ParseError(""), FIRST + "\n" * many)


class Same(Case):
    def test_shell_workshop_and_functions(self):
        """After the same edits, all of them tell the same of the same program."""
        for number, program in enumerate(SMALL[::3] + ALL):
            source = brute.seeded(number)
            workshop = Workshop(program)
            for _ in range(3):
                for edit in some_edits(workshop.program, source):
                    try:
                        workshop.do(edit)
                    except InvalidEdit:
                        pass
            shell = self.shell_with(workshop.program)
            for point in plain.points(workshop.program)[::2]:
                basis = workshop.invariant_basis(point)
                self.assertEqual(basis, invariant_basis(workshop.program, point))
                told = [row_text(workshop.program, point[0], row) for row in basis]
                self.assertEqual(shell.run("invariants " + point_text(workshop.program, point)), lines(told))
