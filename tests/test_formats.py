"""[17.1] to [17.4], and [0.1] to [0.5] and [0.9] of the functions on texts."""
import itertools
import unittest

from tests import brute, forms, plain
from tests.checks import check_all, is_point, name_at, point_at, point_junk, program_at, thin_junk, trail_at, trail_junk
from tests.examples import ALL, P, Q, R, S
from tests.making import CHAIN, DOUBLE, KNOWN, NESTED, SWAPS, WIDE, some_programs
from tests.test_invariants import ROWS, some_rows
from tests.test_trails import PIECES, some_trails
from tests.wrong import check_call, few_junk, much_junk
from wordlaws.errors import InvalidRow, ParseError
from wordlaws.text.formats import parse_point, parse_program, parse_row, parse_trail, point_text, program_text, row_text
from wordlaws.text.formats import trail_text

SOME = KNOWN + tuple(program for width in (1, 2, 8, 16) for program in some_programs(20, width, 14))
# Each name is a word of the formats.
SPOKEN = (3, ("set", "globals"), (
    ("block", ("call",), ("choose",), ("choose", "call"), (
        ("choose", ((("call", ("choose", "set"), "block", ((0, 0, 0, 1, 0),)),), (("input", "choose"),))),
    )),
    ("call", ("input",), (), (), (("set", "input", (1, 1, 1, 1)),)),
    ("main", (), ("x", "procedur"), (), (
        ("call", (), "repeat", ()), ("call", (), "call", ((7, 0, 2, 0, 1),)),
        ("call", ("x", "procedur"), "block", ((0, 0, 0, 0, 0),)), ("repeat", (("repeat", ()),)),
    )),
    ("repeat", (), ("repeat", "locals"), ("locals",)[:0], (("repeat", (("set", "repeat", (0, 0, 0, 1, 7)),)),)),
    ("width", (), (), (), ()),
))
SIGNS = "\n -.,*=():+0123xabc\t\r"


def row_in_words(program, name, row):
    """The text of a row, word for word."""
    parts = [str(row[0])] * (row[0] != 0)
    for word, entry in zip(plain.variables(program, name), row[1:]):
        parts += [] if entry == 0 else [word if entry == 1 else f"{entry}*{word}"]
    return " + ".join(parts) or "0"


def lines_of(program, name, block, depth):
    def row(words):
        return row_in_words(program, name, words)

    for here in block:
        kind = here[0]
        line = kind
        if kind == "set":
            line = f"set {here[1]} = {row(here[2])}"
        elif kind == "input":
            line = f"input {here[1]}"
        elif kind == "call":
            line = "call " + (",".join(here[1]) + " = " if here[1] else "") + here[2]
            line += "(" + ", ".join(map(row, here[3])) + ")"
        yield " " * depth + line
        if kind == "choose":
            for inner in here[1]:
                yield " " * (depth + 2) + "block"
                yield from lines_of(program, name, inner, depth + 4)
        if kind == "repeat":
            yield from lines_of(program, name, here[1], depth + 2)


def in_words(program):
    """The text of a program, word for word."""
    lines = [f"width {program[0]}", "globals " + (",".join(program[1]) or "-")]
    for name, parameters, own, results, body in program[2]:
        told = [",".join(names) or "-" for names in (parameters, own, results)]
        lines.append("procedure {} parameters {} locals {} results {}".format(name, *told))
        lines.extend(lines_of(program, name, body, 2))
    return "\n".join(lines)


def trail_in_words(trail):
    def told(moves):
        return ".".join(map(str, moves)) or "-"

    return "\n".join([f"piece {name} {told(moves)}" for name, moves in trail[0]]
                     + [f"frame {told(moves)}" for moves in trail[1]])


def changed_texts(text, source=None, many=10 ** 9):
    """Texts that differ by one sign, one line, the order of two lines, or a blank or a zero more."""
    spots = range(len(text) + 1)
    for at in spots if source is None else source.sample(spots, min(many, len(spots))):
        yield text[:at] + text[at + 1:]
        for sign in SIGNS if source is None else source.sample(SIGNS, 4):
            yield text[:at] + sign + text[at:]
            yield text[:at] + sign + text[at + 1:]
    lines = text.split("\n")
    for at in range(len(lines)):
        yield "\n".join(lines[:at] + lines[at + 1:])
        yield "\n".join(lines[:at] + lines[at:at + 1] + lines[at:])
        yield "\n".join(lines[:at] + [" " + lines[at]] + lines[at + 1:])
        yield "\n".join(lines[:at] + ["  " + lines[at]] + lines[at + 1:])
        yield "\n".join(lines[:at] + [lines[at] + " "] + lines[at + 1:])
        yield "\n".join(lines[:at] + [""] + lines[at:])
        yield "\n".join(lines[:at] + lines[at:at + 2][::-1] + lines[at + 2:])
    for end in ("\n", " ", "\r", "\n\n", "\t", "0", ".", "\0", "\u00e9"):
        yield text + end
        yield end + text
    yield text.upper()
    yield text.replace(" ", "  ")
    yield text.replace("\n", "\r\n")
    yield text.strip() + text


class Case(unittest.TestCase):
    def check(self, text, parse, write, is_value):
        """The text is that of exactly one value, or is refused; it is known which values there are."""
        try:
            value = parse(text)
        except ParseError as error:
            self.assertIs(type(error), ParseError)
            return False
        self.assertTrue(is_value(value), text)
        self.assertEqual(write(value), text)
        return True

    def refused(self, function, *args):
        with self.assertRaises(ParseError):
            function(*args)

    def long_texts(self, start, between, end):
        """Texts of many signs around a part."""
        for many in (50, 5000, 60000):
            for part in between:
                yield start + part * many + end
        for digits in ("9" * 40, "9" * 41, "9" * 4299, "9" * 4301, "1" + "0" * 20000, "0" * 5000, "0" * 20000 + "1"):
            yield start + digits + end


class Programs(Case):
    def parsed(self, text):
        return self.check(text, parse_program, in_words, forms.is_program)

    def test_written_and_read(self):
        for program in SOME + (SPOKEN,):
            text = program_text(program)
            self.assertEqual(text, in_words(program))
            self.assertEqual(parse_program(text), program)

    def test_changed_texts(self):
        """Each changed text is refused, or it is the text of another program."""
        seen = [0, 0]
        for number, program in enumerate(ALL + (SPOKEN, NESTED, SWAPS) + SOME[-8:]):
            text = program_text(program)
            source = None if program in (P, Q) else brute.seeded(number)
            for new in changed_texts(text, source, 40):
                if new != text:
                    seen[self.parsed(new)] += 1
        self.assertGreater(min(seen), 100)

    def test_texts_that_are_refused(self):
        text = program_text(SPOKEN)
        for old, new in (
            ("width 3", "width 03"), ("width 3", "width 0"), ("width 3", "width 17"), ("width 3", "width -3"),
            ("width 3", "width three"), ("width 3", "width "), ("width 3", "width"), ("width 3", "width 3 "),
            ("width 3", "width  3"), ("width 3", "Width 3"), ("width 3", "width 1_0"), ("width 3", "width \u0663"),
            ("width 3", "width +3"), ("width 3", "width 3.0"), ("width 3\n", ""), ("width 3\n", "width 3\n\n"),
            ("set,globals", "-"), ("set,globals", "set, globals"), ("set,globals", "set,"), ("set,globals", ",set"),
            ("set,globals", "set,set"), ("set,globals", ""), ("set,globals", "set"), ("globals set", "globals  set"),
            ("procedure width parameters - locals - results -", "procedure width parameters - locals - results"),
            ("procedure width parameters - locals - results -", "procedure width parameters  locals - results -"),
            ("procedure width parameters - locals - results -", "procedure width locals - parameters - results -"),
            ("procedure width parameters - locals - results -", "procedure width parameters - locals - results - -"),
            ("procedure width parameters - locals - results -", "procedure call parameters - locals - results -"),
            ("procedure width", "procedure aaa"), ("procedure width", "procedure Width"), ("procedure width", "width"),
            ("call repeat()", "call repeat( )"), ("call repeat()", "call repeat"), ("call repeat()", "call repeat(0)"),
            ("call repeat()", "call  = repeat()"), ("call repeat()", "call - = repeat()"), ("call repeat()", "call lost()"),
            ("call repeat()", "call repeat()()"), ("call repeat()", "call main()"), ("call repeat()", "repeat()"),
            ("call repeat()", "call x = repeat()"), ("7 + 2*globals + procedur", "2*globals + 7 + procedur"),
            ("7 + 2*globals + procedur", "7 + procedur + 2*globals"), ("7 + 2*globals + procedur", "7 + 2*globals +"),
            ("7 + 2*globals + procedur", "7 +2*globals + procedur"), ("7 + 2*globals + procedur", "7 + 2 * globals"),
            ("7 + 2*globals + procedur", "7 + 2*globals + 1*procedur"), ("7 + 2*globals + procedur", "0 + 2*globals"),
            ("7 + 2*globals + procedur", "7 + 2*globals + 0*x"), ("7 + 2*globals + procedur", "7 + 02*globals"),
            ("7 + 2*globals + procedur", "7 + 8*globals"), ("7 + 2*globals + procedur", "8 + globals"),
            ("7 + 2*globals + procedur", "7 + globals*2"), ("7 + 2*globals + procedur", "7 + -1*globals"),
            ("7 + 2*globals + procedur", "7 + globals + globals"), ("7 + 2*globals + procedur", ""),
            ("7 + 2*globals + procedur", "07 + globals"), ("7 + 2*globals + procedur", "lost"),
            ("7 + 2*globals + procedur", "7 + 2*lost"), ("7 + 2*globals + procedur", "3 + 4"),
            ("7 + 2*globals + procedur", "7 - globals"), ("7 + 2*globals + procedur", "0, 0"),
            ("x,procedur = block", "x, procedur = block"), ("x,procedur = block", "x = block"),
            ("x,procedur = block", "x,x = block"), ("x,procedur = block", "x,procedur=block"),
            ("x,procedur = block", "x,lost = block"), ("x,procedur = block", "x,procedur = x,procedur = block"),
            ("input choose", "input lost"), ("input choose", "input"), ("input choose", "input choose "),
            ("input choose", "inputchoose"), ("input choose", "input set,choose"), ("\n    block\n", "\n", ),
            ("set input = ", "set lost = "), ("set input = ", "set input  = "), ("set input = ", "set input == "),
            ("    repeat\n", "     repeat\n"), ("    repeat\n", "   repeat\n"), ("    repeat\n", "      repeat\n"),
        ):
            self.assertIn(old, text)
            new = text.replace(old, new, 1)
            self.assertNotEqual(new, text)
            self.refused(parse_program, new)

    def test_bounds(self):
        """As many statements, blocks, procedures and variables as there may be, and one more."""
        head = "width 2\nglobals -\nprocedure main parameters - locals x results -"
        for many in (60, 61, 3000):
            self.assertEqual(self.parsed(head + "\n  input x" * many), many == 60)
        for many in (0, 1, 2, 4, 5):
            self.assertEqual(self.parsed(head + "\n  choose" + "\n    block" * many), 2 <= many <= 4)
        for many in (3, 4, 5, 60, 500):
            lines = [" " * (2 + 2 * at) + "repeat" for at in range(many)]
            self.assertEqual(self.parsed("\n".join([head] + lines)), many == 3)
            lines = [line for at in range(many) for line in (" " * (2 + 4 * at) + "choose", " " * (4 + 4 * at) + "block")]
            ends = [" " * (4 + 4 * at) + "block" for at in reversed(range(many))]
            self.assertEqual(self.parsed("\n".join([head] + lines + ends)), many == 3)
        for many in (4, 5, 30000):
            for text in (f"globals -\nprocedure main parameters - locals {','.join(['abcd', 'b', 'c', 'd', 'e'][:many])}",):
                self.assertEqual(self.parsed(f"width 2\n{text} results -"), many == 4)
        names = [chr(97 + at // 26) + chr(97 + at % 26) for at in range(600)]
        for some in (names, names * 50):
            self.refused(parse_program, head.replace("locals x", "locals " + ",".join(some)) + "\n  set ab = ac" * 300)
            self.refused(parse_program, head.replace("globals -", "globals " + ",".join(some)))
        others = "".join(f"\nprocedure {name} parameters - locals - results -" for name in "nopqr")
        self.assertTrue(self.parsed(head + others))
        most = head + ("\n  choose" + "\n    block" * 4) * 60 + others
        self.assertEqual((most.count("\n"), self.parsed(most)), (307, True))
        self.assertFalse(self.parsed(most + "\n  input x"))
        self.assertFalse(self.parsed(head + others + "\nprocedure s parameters - locals - results -"))

    def test_long_texts(self):
        head = "width 2\nglobals -\nprocedure main parameters - locals x results -"
        for text in self.long_texts(head + "\n  set x = ", (" ", "1", "x", " + x", "\n", "(", "*", "2*"), ""):
            self.refused(parse_program, text)
        for text in self.long_texts("width ", (" ", "1", "\n"), "\nglobals -"):
            self.refused(parse_program, text)
        for text in self.long_texts("", (" ", "1", "\n", "width 2\n", "globals -\n"), ""):
            self.refused(parse_program, text)
        for text in self.long_texts(head + "\n  call ", ("x,", "x = ", "(", ")", "0, "), ")"):
            self.refused(parse_program, text)

    def test_values_that_are_no_texts(self):
        for junk in much_junk() + [P, [program_text(P)], program_text(P).encode(), ("width 2",), None]:
            self.refused(parse_program, junk)

    def test_example(self):
        self.assertEqual(program_text(P), (
            "width 4\nglobals -\nprocedure f parameters a locals - results a\n  choose\n    block\n    block\n"
            "      set a = 6 + a\n      call a = f(a)\nprocedure main parameters - locals x results -\n  call x = f(0)"))
        self.assertEqual(program_text((1, ("g", "h"), (("main", (), (), (), ()),))),
                         "width 1\nglobals g,h\nprocedure main parameters - locals - results -")

    def test_wrong_arguments(self):
        check_all(self, program_text, (P,), [program_at(0)], (P[:2], list(P), (0,) + P[1:], program_text(P)))


class Rows(Case):
    def test_all_rows(self):
        """All rows of few variables have different texts, which are read back."""
        for program in (R, (1, (), (("main", (), ("x", "ab"), (), ()),)), (2, ("c",), (("main", (), (), (), ()),))):
            for name in plain.names(program):
                rows = brute.all_vectors(program[0], plain.state_size(program, name))
                texts = [row_text(program, name, row) for row in rows]
                self.assertEqual(texts, [row_in_words(program, name, row) for row in rows])
                self.assertEqual(len(set(texts)), len(texts))
                self.assertEqual([parse_row(program, name, text) for text in texts], rows)

    def test_changed_texts(self):
        seen = [0, 0]
        for number, program in enumerate(SOME[::3] + (SPOKEN, WIDE)):
            for name in plain.names(program):
                size = plain.state_size(program, name)
                for row in some_rows(program, name, number, 3) + [(0,) * size, (1,) * size]:
                    text = row_text(program, name, row)
                    self.assertEqual(text, row_in_words(program, name, row))
                    self.assertEqual(parse_row(program, name, text), row)
                    for new in changed_texts(text, brute.seeded(number), 6):
                        found = self.check(
                            new, lambda told: parse_row(program, name, told), lambda told: row_in_words(program, name, told),
                            lambda told: brute.is_vector(program[0], size, told))
                        seen[found] += 1
        self.assertGreater(min(seen), 500)

    def test_texts_that_are_refused(self):
        for text in ("", " ", "00", "0 + x", "x + 0", "x + 3", "y + x", "x + x", "x+y", "x  + y", "x +y", "1*x", "0*x",
                     "01*x", "256", "256*x", "-1", "-x", "x - y", "x*2", "2 * x", "2*", "*x", "2**x", "2x", "X", "z",
                     "x + ", " + x", "x y", "x,y", "x.y", "(x)", "+x", "3 + 4", "2*3", "\u0663", "\u00b2", "1_0", "1e1",
                     "0x1", "x\n", "\nx", "x ", " x", "255*x + 255*x", "x + 2*", "3 + + x", "None", "main", "main 0"):
            self.refused(parse_row, Q, "main", text)
        for text in ("0", "255", "x", "2*x", "255*y", "1 + x + y", "x + 2*y", "3 + 255*x"):
            self.assertEqual(row_text(Q, "main", parse_row(Q, "main", text)), text)

    def test_rows_of_another_procedure(self):
        self.assertEqual(parse_row(P, "f", "a"), (0, 1))
        self.refused(parse_row, P, "main", "a")
        self.refused(parse_row, P, "f", "x")
        self.assertEqual(parse_row(SPOKEN, "repeat", "set + 7*repeat + locals"), (0, 1, 0, 7, 1))

    def test_long_texts(self):
        for start, end in (("", ""), ("3 + ", ""), ("", "*x"), ("x + ", "*y"), ("0", "")):
            for text in self.long_texts(start, ("x + ", "1", "*", " ", "1*", "\n", "y", "+"), end):
                self.refused(parse_row, Q, "main", text)

    def test_example(self):
        self.assertEqual(row_text(Q, "main", (3, 0, 255)), "3 + 255*y")
        self.assertEqual(row_text(Q, "main", (0, 0, 0)), "0")

    def test_wrong_arguments(self):
        def row_at(args):
            size = plain.state_size(args[0], args[1])
            return None if brute.is_vector(args[0][0], size, args[2]) else (InvalidRow,)

        def text_at(args):
            if type(args[2]) is str:
                some = {row_in_words(args[0], args[1], row) for row in brute.all_vectors(4, 2)}
                if args[2] in some:
                    return None
            return (ParseError,)

        check_all(self, row_text, (P, "main", (0, 4)), [program_at(0), name_at(1), row_at], ROWS)
        check_all(self, parse_row, (P, "main", "3 + 4*x"), [program_at(0), name_at(1), text_at], ("x", "15*x", "16", "a"))


class Points(Case):
    def test_written_and_read(self):
        for program in SOME + (SPOKEN,):
            for point in plain.points(program):
                text = point[0] + " " + ".".join(map(str, point[1]))
                self.assertEqual(point_text(program, point), text)
                self.assertEqual(parse_point(program, text), point)

    def test_changed_texts(self):
        seen = [0, 0]
        for program in ALL + (SPOKEN, NESTED):
            for point in plain.points(program):
                for new in changed_texts(point_text(program, point)):
                    found = self.check(new, lambda told: parse_point(program, told),
                                       lambda told: told[0] + " " + ".".join(map(str, told[1])),
                                       lambda told: is_point(program, told))
                    seen[found] += 1
        self.assertGreater(min(seen), 200)

    def test_texts_that_are_refused(self):
        for text in ("", " ", "main", "main ", " 0", "0", "main 4", "main 00", "main 2.0", "main 2.0.3", "main 2.1.0",
                     "main  2", "main 2 ", "main 2.", "main .2", "main 2..0", "main -1", "main 02", "main 2.00.1", "f 0",
                     "Main 0", "main 0 0", "main 0,0", "main +0", "main \u0660", "main 1_0", "main (0,)", "main\n0",
                     "main 2.0.1\n", "main True", "main -", "main\t0", "main 2.0.1.0", "main 2.0.1.0.0"):
            self.refused(parse_point, Q, text)

    def test_long_texts(self):
        for start in ("", "main ", "main 2.0.", "main 2."):
            for text in self.long_texts(start, ("0", "1", ".", "0.", ".0", " ", "\n", "main ", "main"), ""):
                self.refused(parse_point, Q, text)
        for text in self.long_texts("", ("m", "main"), " 0"):
            self.refused(parse_point, Q, text)

    def test_example(self):
        self.assertEqual(point_text(Q, ("main", (2, 0, 1))), "main 2.0.1")

    def test_wrong_arguments(self):
        def text_at(args):
            some = [point[0] + " " + ".".join(map(str, point[1])) for point in plain.points(args[0])]
            return None if type(args[1]) is str and args[1] in some else (ParseError,)

        check_all(self, point_text, (P, ("main", (1,))), [program_at(0), point_at(1)], point_junk())
        check_all(self, parse_point, (P, "main 1"), [program_at(0), text_at], ("main 0", "f 0.1.2", "f 2", "main 2"))


class Trails(Case):
    def test_written_and_read(self):
        for number, program in enumerate(SOME + (SPOKEN,)):
            for trail in some_trails(program, number, 3, 40):
                text = trail_in_words(trail)
                self.assertEqual(trail_text(program, trail), text)
                self.assertEqual(parse_trail(program, text), trail)

    def test_changed_texts(self):
        seen = [0, 0]
        for number, program in enumerate((P, R, SWAPS, NESTED, DOUBLE, SPOKEN) + SOME[::9]):
            for trail in some_trails(program, number, 2, 14):
                text = trail_text(program, trail)
                for new in changed_texts(text, brute.seeded(number), 30):
                    if new != text:
                        found = self.check(new, lambda told: parse_trail(program, told), trail_in_words,
                                           lambda told: plain.is_trail(program, told))
                        seen[found] += 1
        self.assertGreater(min(seen), 100)

    def test_texts_that_are_refused(self):
        text = trail_text(P, (PIECES, ((1,),)))
        self.assertEqual(text, "piece f 0.0\npiece f 1.0.0.0\nframe 1")
        for new in (
            "", "frame", "frame ", "frame 1", "piece f 0.0", "piece f 0.0\npiece f 1.0.0.0", text + "\n", "\n" + text,
            text + "\nframe 0", text.replace("frame 1", "frame 2"), text.replace("frame 1", "frame 01"),
            text.replace("frame 1", "frame -1"), text.replace("frame 1", "frame 1 "), text.replace("frame 1", "frame  1"),
            text.replace("frame 1", "frame 1."), text.replace("frame 1", "frame .1"), text.replace("frame 1", "frame 1.-"),
            text.replace("frame 1", "frame --"), text.replace("frame 1", "frame main 1"), text.replace("frame 1", "Frame 1"),
            text.replace("piece f 0.0", "piece main 0"), text.replace("piece f 0.0", "piece f -"),
            text.replace("piece f 0.0", "piece f"), text.replace("piece f 0.0", "piece 0.0"), text.replace("f", "g"),
            text.replace("\n", "\r\n"), text.replace("\n", " "), text.replace("\n", "\n\n"), "frame 1\npiece f 0.0",
            "frame -\npiece f 0.0", "frame -\nframe 0.1", "frame \u0661", "frame -\nframe -\nframe -",
        ):
            self.refused(parse_trail, P, new)
        for new in ("frame -", "piece f 0.0\nframe -", "frame -\nframe -", "frame -\nframe 1.0\nframe 0",
                    text.replace("frame 1", "frame 0"), text.replace("frame 1", "frame -\nframe 1.0.1")):
            self.assertEqual(trail_text(P, parse_trail(P, new)), new)

    def test_thousands_of_pieces_and_frames(self):
        many = 3000
        pieces = (("f", (0, 0, 0)),) + tuple(("f", (1, k, k, 0)) for k in range(many))
        trail = (pieces, ((many, 0),))
        text = trail_text(DOUBLE, trail)
        self.assertEqual(text, trail_in_words(trail))
        self.assertEqual(parse_trail(DOUBLE, text), trail)
        self.refused(parse_trail, DOUBLE, text.replace("frame 3000", "frame 3001"))
        deep = ((), ((),) + ((1, 0),) * many)
        self.assertEqual(parse_trail(P, trail_text(P, deep)), deep)

    def test_long_texts(self):
        for start, end in (("frame ", ""), ("piece f 0.0\nframe ", ""), ("piece f ", "\nframe 0"), ("", ""),
                           ("piece ", " 0.0\nframe 0"), ("piece f 1.0.", ".0\nframe 0")):
            for text in self.long_texts(start, ("0", "0.", ".0", "-", " ", "\n", "frame 0\n", "piece f 0.0\n"), end):
                self.refused(parse_trail, P, text)

    def test_wide_inputs(self):
        trail = ((), ((65535, 0, 0, 0),))
        self.assertEqual(trail_text(WIDE, trail), "frame 65535.0.0.0")
        self.assertEqual(parse_trail(WIDE, "frame 65535.0.0.0"), trail)
        self.refused(parse_trail, WIDE, "frame 65536.0.0.0")
        self.assertEqual(parse_trail(CHAIN, "frame 7"), ((), ((7,),)))

    def test_wrong_arguments(self):
        def text_at(args):
            return None if args[1] in ("frame -", "frame -\nframe -") else (ParseError,)

        check_all(self, trail_text, (P, (PIECES, ((1,),))), [program_at(0), trail_at(1)], trail_junk())
        check_all(self, parse_trail, (P, "frame -"), [program_at(0), text_at], trail_junk() + ["frame -\nframe -"])


class Whole(Case):
    def test_first_arguments_come_first(self):
        for function, valid in ((parse_row, (P, "main", "x")), (row_text, (P, "main", (0, 4)))):
            for one, two in itertools.product(few_junk() + [P], thin_junk() + ["main"]):
                if one != P:
                    check_call(self, function, [program_at(0)], (one, two, None))
                elif two not in ("main", "f"):
                    check_call(self, function, [name_at(1)], (one, two, None))
            self.assertIsNotNone(function(*valid))

    def test_programs_of_the_tests(self):
        for program in (SPOKEN,) + ALL:
            self.assertTrue(forms.is_program(program))
        self.assertEqual(plain.names(S), ["longname", "main", "none", "z"])
