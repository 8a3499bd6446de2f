"""[14.1], and [0.1] to [0.5] and [0.9] of the functions that change programs."""
import itertools
import unittest

from tests import brute, forms, plain
from tests.checks import check_all, point_at, point_junk, program_at, row_at
from tests.examples import ALL, P, Q, R, S
from tests.making import CALLS, CHAIN, DOUBLE, ENDLESS, GROWING, KNOWN, NESTED, SWAPS, WIDE, some_programs
from tests.test_fewest import with_rows
from tests.test_invariants import ROWS
from tests.wrong import check_call, few_junk, much_junk
from wordlaws.code.changes import exchanged, inlined, renamed, sliced, unrolled
from wordlaws.errors import InvalidChange, InvalidProgram, TooMany, UnknownName, UnknownPoint
from wordlaws.flow.states import state_basis
from wordlaws.invariants.invariants import invariant_basis
from wordlaws.modules.bases import basis_of
from wordlaws.modules.duals import annihilator

SMALL = tuple(program for width in (1, 2, 3) for program in some_programs(50, width)) + (P, R, NESTED, SWAPS)
LARGE = tuple(program for width in (8, 16) for program in some_programs(15, width, 14)) + ALL + (
    CHAIN, DOUBLE, ENDLESS, WIDE, GROWING, CALLS)


def points_with(programs, word):
    """The pairs of a program and a point before such a statement."""
    for program in programs:
        for point in plain.points(program):
            if plain.kind(program, point) == word:
                yield program, point


def count(program):
    """The number of statements."""
    return sum(plain.statement(program, point) is not None for point in plain.points(program))


def bodies(program):
    return {entry[0]: entry[4] for entry in program[2]}


class Case(unittest.TestCase):
    def check_points(self, program, found):
        """The form of the pair: each new point is one of the new program, and is ahead of the same statement or so."""
        changed, points = found
        self.assertEqual(type(found), tuple)
        self.assertTrue(forms.is_program(changed))
        self.assertEqual(list(points), plain.points(program))
        for new in points.values():
            self.assertEqual(type(new), tuple)
            self.assertLessEqual(set(new), set(plain.points(changed)))
            self.assertEqual(len(set(new)), len(new))

    def check_states(self, program, found, names=None):
        """The invariants at the new points are those at the old one, for small programs, by all states."""
        changed, points = found
        before, behind = plain.reached_by_runs(program), plain.reached_by_runs(changed)
        for point, new in points.items():
            if new:
                size = plain.state_size(program, point[0])
                old_states = before.states(point)
                new_states = {state[:size] for other in new for state in behind.states(other)}
                bases = [basis_of(program[0], size, tuple(states)) for states in (old_states, new_states)]
                self.assertEqual(bases[0], bases[1], (point, new))

    def check_bases(self, program, found):
        """The same by the modules that the package finds, for large programs."""
        changed, points = found
        for point, new in points.items():
            if new:
                size = plain.state_size(program, point[0])
                states = [state[:size] for other in new for state in state_basis(changed, other)]
                expected = annihilator(program[0], size, basis_of(program[0], size, tuple(states)))
                self.assertEqual(invariant_basis(program, point), expected, (point, new))

    def refused(self, error, function, *args, **named):
        with self.assertRaises(type(error)) as caught:
            function(*args, **named)
        self.assertIs(type(caught.exception), type(error))
        if not isinstance(error, InvalidChange):
            self.assertEqual(vars(caught.exception), vars(error))


def renamed_by_hand(value, names, variables):
    """A statement, a block or a tuple of names with other names; procedures only where they are called."""
    if isinstance(value, tuple) and value and value[0] in ("set", "input", "call", "choose", "repeat"):
        kind = value[0]
        if kind == "set":
            return kind, variables.get(value[1], value[1]), value[2]
        if kind == "input":
            return kind, variables.get(value[1], value[1])
        if kind == "call":
            targets = tuple(variables.get(name, name) for name in value[1])
            return kind, targets, names.get(value[2], value[2]), value[3]
        if kind == "repeat":
            return kind, tuple(renamed_by_hand(part, names, variables) for part in value[1])
        return kind, tuple(tuple(renamed_by_hand(part, names, variables) for part in block) for block in value[1])
    return tuple(renamed_by_hand(part, names, variables) for part in value)


class Renamed(Case):
    def expected(self, program, names, inside):
        procedures = []
        for name, parameters, own, results, body in program[2]:
            variables = names if name == inside else {}
            callees = names if inside is None else {}
            lists = [tuple(variables.get(word, word) for word in some) for some in (parameters, own, results)]
            body = tuple(renamed_by_hand(statement, callees, variables) for statement in body)
            procedures.append((callees.get(name, name), *lists, body))
        return program[0], program[1], tuple(sorted(procedures))

    def check(self, program, pairs, inside):
        found = renamed(program, *pairs, inside=inside)
        names = dict(pairs)
        self.check_points(program, found)
        self.assertEqual(found[0], self.expected(program, names, inside))
        for (name, place), new in found[1].items():
            self.assertEqual(new, ((name if inside is not None else names.get(name, name), place),))
        back = tuple((new, old) for old, new in pairs)
        self.assertEqual(renamed(found[0], *back, inside=inside)[0], program)
        return found

    def test_procedures(self):
        for number, program in enumerate(SMALL[::2] + LARGE):
            source = brute.seeded(number)
            names = [name for name in plain.names(program) if name != "main"]
            olds = source.sample(names, source.randint(0, len(names)))
            # New names that stand elsewhere in the order, or those of others that get new ones, too.
            news = [source.choice("abyz") + "x" * at + "k" for at in range(len(olds))]
            pairs = list(zip(olds, news))
            found = self.check(program, pairs, None)
            if number % 12 == 0:
                self.check_states(program, found) if program in SMALL else self.check_bases(program, found)
            self.check(program, list(zip(olds, olds[1:] + olds[:1])), None)

    def test_variables(self):
        for number, program in enumerate(SMALL[::2] + LARGE):
            source = brute.seeded(number)
            for inside in plain.names(program):
                names = plain.variables(program, inside)[len(program[1]):]
                olds = source.sample(names, source.randint(0, len(names)))
                news = [source.choice("abyz") + "x" * at + "k" for at in range(len(olds))]
                found = self.check(program, list(zip(olds, news)), inside)
                if number % 12 == 0:
                    self.check_states(program, found) if program in SMALL else self.check_bases(program, found)
                self.check(program, list(zip(olds, olds[1:] + olds[:1])), inside)

    def test_no_pairs(self):
        for program in KNOWN:
            for inside in [None] + plain.names(program):
                points = {point: (point,) for point in plain.points(program)}
                self.assertEqual(renamed(program, inside=inside), (program, points))

    def test_order(self):
        changed, points = renamed(P, ("f", "zz"))
        self.assertEqual(plain.names(changed), ["main", "zz"])
        self.assertEqual(points[("f", (0, 1, 2))], (("zz", (0, 1, 2)),))
        self.assertEqual(list(points), plain.points(P))
        self.assertEqual(renamed(changed, ("zz", "f"))[0], P)

    def test_procedures_and_variables_with_one_name(self):
        program = (2, (), (("a", ("a",), (), ("a",), (("call", ("a",), "a", ((0, 1),)),)),
                           ("main", (), ("a",), (), (("call", ("a",), "a", ((0, 1),)), ("set", "a", (1, 1))))))
        changed, _ = renamed(program, ("a", "b"))
        self.assertEqual(bodies(changed)["b"], (("call", ("a",), "b", ((0, 1),)),))
        self.assertEqual(bodies(changed)["main"], (("call", ("a",), "b", ((0, 1),)), ("set", "a", (1, 1))))
        changed, _ = renamed(program, ("a", "b"), inside="main")
        self.assertEqual(bodies(changed)["main"], (("call", ("b",), "a", ((0, 1),)), ("set", "b", (1, 1))))
        self.assertEqual(bodies(changed)["a"], bodies(program)["a"])
        changed, _ = renamed(program, ("a", "main"), inside="a")
        self.assertEqual(changed[2][0], ("a", ("main",), (), ("main",), (("call", ("main",), "a", ((0, 1),)),)))
        self.assertEqual(renamed(changed, ("main", "a"), inside="a")[0], program)

    def test_errors_in_their_order(self):
        bad = InvalidChange("")
        for program, pairs, inside, error in (
            (P, (("f", "main"),), None, bad), (P, (("main", "g"),), None, bad), (P, (("f", "g"), ("f", "h")), None, bad),
            (P, (("f", "g"), ("f", "g")), None, bad), (P, (("x", "y"),), None, UnknownName("x")),
            (P, (("f", "g"), ("y", "f"), ("x", "y")), None, UnknownName("y")),
            (P, (("y", "f"), ("x", "G")), None, bad), (P, (("y", "f"), ("y", "g")), None, bad),
            (P, (("y", "f"), ("main", "g")), None, bad), (P, (("main", "f"), ("y", "g")), "f", UnknownName("main")),
            (P, (("x", "a"),), "f", UnknownName("x")), (P, (("f", "a"),), "main", UnknownName("f")),
            (P, (("x", "a"),), "lost", UnknownName("lost")), (P, (("x", "A"),), "lost", UnknownName("lost")),
            (R, (("g", "h"),), "stop", UnknownName("g")), (R, (("x", "g"),), "main", bad),
            (R, (("stop", "main"),), None, bad), (R, (("stop", "x"), ("x", "stop")), None, UnknownName("x")),
            (Q, (("x", "y"),), "main", bad), (Q, (("x", "z"), ("y", "z")), "main", bad),
            (Q, (("x", "z"), ("x", "w")), "main", bad), (Q, (("x", "toolongab"),), "main", bad),
            (Q, (("x", ""),), "main", bad), (Q, (("x", "z", "w"),), "main", bad), (Q, (["x", "z"],), "main", bad),
            (S, (("z", "none"),), None, bad), (S, (("z", "none"), ("lost", "z")), None, UnknownName("lost")),
        ):
            self.refused(error, renamed, program, *pairs, inside=inside)
            with self.assertRaises(InvalidProgram):
                renamed(program[:2], *pairs, inside=inside)
        self.assertEqual(plain.names(renamed(S, ("z", "none"), ("none", "z"))[0]), plain.names(S))

    def test_wrong_arguments(self):
        def inside_at(args):
            if args[1] is None or args[1] in plain.names(args[0]):
                return None
            return UnknownName, "name", args[1]

        def pairs_at(args):
            pairs = args[2:]
            if not all(type(pair) is tuple and len(pair) == 2 and all(map(forms.is_name, pair)) for pair in pairs):
                return (InvalidChange,)
            olds = [old for old, _ in pairs]
            if len(set(olds)) < len(olds) or args[1] is None and "main" in olds:
                return (InvalidChange,)
            known = plain.names(args[0])
            if args[1] is not None:
                known = plain.variables(args[0], args[1])[len(args[0][1]):]
            for old in olds:
                if old not in known:
                    return UnknownName, "name", old
            return None if forms.is_program(self.expected(args[0], dict(pairs), args[1])) else (InvalidChange,)

        def by_place(program, inside, *pairs):
            return renamed(program, *pairs, inside=inside)

        pairs = [("a", "b"), ("x", "y"), ("f", "g"), ("f", "main"), ("main", "f"), ("f",), ("f", "g", "h"), ("f", 1),
                 ("f", "G"), ["f", "g"], ("f", None), (1, "f"), ("", "f"), ("f", ""), ("f", "f")]
        checks = [program_at(0), inside_at, pairs_at]
        check_all(self, by_place, (P, None, ("f", "g")), checks, pairs)
        check_all(self, by_place, (P, "f", ("a", "b")), checks, pairs)
        for one, two in itertools.product(pairs, repeat=2):
            for inside in (None, "f", "main", "lost"):
                check_call(self, by_place, checks, (P, inside, one, two))


def inlined_by_hand(program, point):
    """The new procedure of the point by the words of the document; its text, so to speak, with names and no columns."""
    name, _ = point
    _, targets, callee, arguments = plain.statement(program, point)
    _, parameters, own, results, body = plain.procedure(program, callee)
    taken = plain.variables(program, name)
    letters = [letter for letter in "abcdefghijklmnopqrstuvwxyz" if letter not in taken]
    news = dict(zip(parameters + own, letters))
    spoken = [("set", news[word], terms(program, name, row)) for word, row in zip(parameters, arguments)]
    spoken += [("set", news[word], {}) for word in own]
    spoken += [in_words(program, callee, statement, news) for statement in body]
    spoken += [("set", target, {news[result]: 1}) for target, result in zip(targets, results)]
    return tuple(news[word] for word in parameters + own), spoken


def terms(program, name, row, news=()):
    """A row as a dict from names to coefficients; the constant has the name ""."""
    news = dict(news)
    names = [""] + [news.get(word, word) for word in plain.variables(program, name)]
    return {word: entry for word, entry in zip(names, row) if entry}


def in_words(program, name, statement, news=()):
    news = dict(news)
    kind = statement[0]
    if kind == "set":
        return kind, news.get(statement[1], statement[1]), terms(program, name, statement[2], news)
    if kind == "input":
        return kind, news.get(statement[1], statement[1])
    if kind == "call":
        rows = [terms(program, name, row, news) for row in statement[3]]
        return kind, tuple(news.get(word, word) for word in statement[1]), statement[2], rows
    if kind == "repeat":
        return kind, [in_words(program, name, part, news) for part in statement[1]]
    return kind, [[in_words(program, name, part, news) for part in block] for block in statement[1]]


def put_in(spoken, place, new):
    """The block in words, with new statements in the place of one; the point is given by going down."""
    if len(place) == 1:
        return spoken[:place[0]] + new + spoken[place[0] + 1:]
    at, number = place[:2]
    kind, inner = spoken[at]
    if kind == "repeat":
        changed = put_in(inner, place[2:], new)
    else:
        changed = inner[:number] + [put_in(inner[number], place[2:], new)] + inner[number + 1:]
    return spoken[:at] + [(kind, changed)] + spoken[at + 1:]


def nest(block):
    return max([0] + [1 + nest(inner) for here in block
                      for inner in {"choose": here[1], "repeat": here[1:]}.get(here[0], ())])


def why_not_inlined(program, point):
    """The error, or None."""
    here = plain.statement(program, point)
    if here is None or here[0] != "call" or here[2] == point[0]:
        return InvalidChange("")
    _, parameters, own, _, body = plain.procedure(program, here[2])
    if len(plain.variables(program, point[0])) + len(parameters + own) > 4:
        return TooMany(4)
    inner = sum(statement is not None for _, statement in plain.walk(body))
    if count(program) - 1 + len(parameters + own) + inner + len(here[1]) > 60:
        return TooMany(60)
    return TooMany(3) if len(point[1]) // 2 + nest(body) > 3 else None


def shifted(place, point, many):
    """The place, if so many statements are put in behind the point of its procedure."""
    depth = len(point[1]) - 1
    if place[:depth] == point[1][:depth] and place[depth] > point[1][depth]:
        return place[:depth] + (place[depth] + many,) + place[depth + 1:]
    return place


class Inlined(Case):
    def check(self, program, point):
        error = why_not_inlined(program, point)
        if error is not None:
            self.refused(error, inlined, program, point)
            return None
        changed, points = found = inlined(program, point)
        self.check_points(program, found)
        news, spoken = inlined_by_hand(program, point)
        for name, parameters, own, results, body in program[2]:
            entry = plain.procedure(changed, name)
            if name != point[0]:
                self.assertEqual(entry, (name, parameters, own, results, body))
                continue
            self.assertEqual(entry[:4], (name, parameters, own + news, results))
            expected = put_in([in_words(program, name, part) for part in body], point[1], spoken)
            self.assertEqual([in_words(changed, name, part) for part in entry[4]], expected)
        for (name, place), new in points.items():
            expected = ((name, shifted(place, point, len(spoken) - 1) if name == point[0] else place),)
            if name == plain.statement(program, point)[2]:
                expected = ()
            if (name, place) == point:
                here = plain.statement(changed, point)
                expected = () if here and here[0] == "repeat" else (point,)
            self.assertEqual(new, expected)
        return found

    def test_small(self):
        seen = 0
        for program, point in points_with(SMALL, "call"):
            found = self.check(program, point)
            if found is not None:
                seen += 1
                self.check_states(program, found)
        self.assertGreater(seen, 40)

    def test_large(self):
        seen = 0
        for program, point in points_with(LARGE, "call"):
            found = self.check(program, point)
            if found is not None and seen < 40:
                seen += 1
                self.check_bases(program, found)
        self.assertGreater(seen, 30)

    def test_other_statements(self):
        for program in SMALL[::5] + KNOWN:
            for point in plain.points(program):
                if plain.kind(program, point) != "call":
                    self.refused(InvalidChange(""), inlined, program, point)

    def test_nothing_is_put_in(self):
        """The callee is empty: the point is that of the next statement or of the end, and none ahead of a repeat."""
        empty = ("e", (), (), (), ())
        call, put = ("call", (), "e", ()), ("set", "x", (1, 1))
        for body, place, expected in (
            ((call, put), (0,), (("main", (0,)),)), ((call,), (0,), (("main", (0,)),)),
            ((put, call), (1,), (("main", (1,)),)), ((call, ("repeat", (put,))), (0,), ()),
            ((("repeat", (call,)),), (0, 0, 0), (("main", (0, 0, 0)),)),
            ((("repeat", (call, ("repeat", ()))),), (0, 0, 0), ()),
            ((put, call, ("choose", ((put,), ()))), (1,), (("main", (1,)),)),
        ):
            program = (3, (), (empty, ("main", (), ("x",), (), body)))
            found = self.check(program, ("main", place))
            self.check_states(program, found)
            self.assertEqual(found[1][("main", place)], expected)
            self.assertEqual(found[1][("e", (0,))], ())

    def test_the_callee_begins_with_a_repeat(self):
        callee = ("e", (), (), (), (("repeat", (("set", "g", (1, 1)),)),))
        program = (3, ("g",), (callee, ("main", (), (), (), (("call", (), "e", ()), ("set", "g", (0, 2))))))
        found = self.check(program, ("main", (0,)))
        self.check_states(program, found)
        self.assertEqual((found[1][("main", (0,))], found[1][("main", (1,))]), ((), (("main", (1,)),)))

    def test_new_names(self):
        """They are those letters, from a on, that no variable of the procedure has."""
        for variables in (("a", "b"), ("c", "a"), ("b", "d"), ("z", "x"), ("ab", "b"), ("a", "c")):
            for shared in (0, 1, 2):
                callee = ("c", ("a",)[:2 - len(variables[shared:])], ("p",), ("p",), (("set", "p", (1,) * 4),))
                parameters = callee[1]
                size = 1 + shared + len(parameters) + 1
                callee = ("c", parameters, ("p",), ("p",), (("set", "p", (1,) * size),))
                body = (("call", variables[-1:], "c", tuple((0,) * 3 for _ in parameters)),)
                program = (3, variables[:shared], (callee, ("main", (), variables[shared:], (), body)))
                if forms.is_program(program):
                    found = self.check(program, ("main", (0,)))
                    own = plain.procedure(found[0], "main")[2]
                    letters = [letter for letter in "abcdef" if letter not in variables]
                    self.assertEqual(own, variables[shared:] + tuple(letters[:len(parameters) + 1]))

    def test_bounds(self):
        """One variable, one statement and one nested statement more than there may be."""
        for locals_there, many in itertools.product(range(1, 5), range(5)):
            callee = ("f", (), tuple("abcd"[:many]), (), ())
            program = (3, (), (callee, ("main", (), tuple("pqrs"[:locals_there]), (), (("call", (), "f", ()),))))
            self.assertEqual(self.check(program, ("main", (0,))) is None, locals_there + many > 4)
        put = ("set", "x", (1, 1))
        for inner, outer in ((10, 38), (10, 39), (20, 18), (20, 19), (28, 2), (28, 3), (29, 0), (29, 1), (30, 0), (0, 58), (0, 59)):
            callee = ("f", ("y",), (), ("y",), (("set", "y", (0, 3)),) * inner)
            body = (put,) * outer + (("call", ("x",), "f", ((0, 1),)),)
            program = (3, (), (callee, ("main", (), ("x",), (), body)))
            # The call goes, and two sets and the body come.
            self.assertEqual(self.check(program, ("main", (outer,))) is None, 2 * inner + outer + 2 > 60)
        for outer, inner in itertools.product(range(4), repeat=2):
            block = (("set", "y", (1, 1)),)
            for _ in range(inner):
                block = (("repeat", block),)
            callee = ("f", ("y",), (), (), block)
            place = (0,) * (2 * outer + 1)
            body = (("call", (), "f", ((0, 1),)),)
            for _ in range(outer):
                body = (("choose", (body, ())),)
            program = (2, (), (callee, ("main", (), ("x",), (), body)))
            found = self.check(program, ("main", place))
            self.assertEqual(found is None, inner + outer > 3)
            if found is not None:
                self.check_states(program, found)

    def test_the_first_bound_counts(self):
        body = (("set", "y", (0, 1, 0, 0, 0)), ("repeat", (("repeat", (("repeat", ()),)),))) + (("repeat", ()),) * 26
        callee = ("f", ("y",), ("p", "q", "r"), (), body)
        call = ("call", (), "f", ((0, 1),))
        main = ("main", (), ("x",), (), (("repeat", (call,)),) + (("input", "x"),) * 28)
        program = (2, (), (callee, main))
        self.refused(TooMany(4), inlined, program, ("main", (0, 0, 0)))
        callee = ("f", ("y",), (), (), tuple(("set", "y", (0, 1)) if here[0] == "set" else here for here in body))
        self.refused(TooMany(60), inlined, (2, (), (callee, main)), ("main", (0, 0, 0)))
        callee = callee[:4] + (callee[4][:2],)
        self.refused(TooMany(3), inlined, (2, (), (callee, main)), ("main", (0, 0, 0)))

    def test_example(self):
        changed, points = inlined(P, ("main", (0,)))
        self.assertEqual(changed[2][1][2], ("x", "a"))
        self.assertEqual(points[("main", (1,))], (("main", (3,)),))
        self.assertEqual(points[("f", (0,))], ())

    def test_wrong_arguments(self):
        def call_at(args):
            here = plain.statement(*args)
            return None if here and here[0] == "call" and here[2] != args[1][0] else (InvalidChange,)

        check_all(self, inlined, (P, ("main", (0,))), [program_at(0), point_at(1), call_at], point_junk())


class Unrolled(Case):
    def check(self, program, point):
        here = plain.statement(program, point)
        if here is None or here[0] != "repeat":
            self.refused(InvalidChange(""), unrolled, program, point)
            return None
        inner = sum(statement is not None for _, statement in plain.walk(here[1]))
        if count(program) + 1 + inner > 60:
            self.refused(TooMany(60), unrolled, program, point)
            return None
        changed, points = found = unrolled(program, point)
        self.check_points(program, found)
        name, place = point
        expected = [in_words(program, name, part) for part in plain.procedure(program, name)[4]]
        old = in_words(program, name, here)
        again = ("choose", [[], [in_words(program, name, part) for part in here[1]]])
        expected = put_in(expected, place, [old, again])
        self.assertEqual([in_words(changed, name, part) for part in plain.procedure(changed, name)[4]], expected)
        for other in plain.names(program):
            if other != name:
                self.assertEqual(plain.procedure(changed, other), plain.procedure(program, other))
        behind = place[:-1] + (place[-1] + 1, 1)
        for (other, at), new in points.items():
            if other == name and at[:len(place)] == place and at != place:
                self.assertEqual(new, ((name, at), (name, behind + at[len(place) + 1:])))
            else:
                self.assertEqual(new, ((other, shifted(at, point, 1) if other == name else at),))
        return found

    def test_small(self):
        seen = 0
        for number, (program, point) in enumerate(points_with(SMALL, "repeat")):
            found = self.check(program, point)
            if number % 4 == 0:
                seen += 1
                self.check_states(program, found)
        self.assertGreater(seen, 25)

    def test_large(self):
        for program, point in points_with(LARGE, "repeat"):
            found = self.check(program, point)
            self.check_bases(program, found)

    def test_other_statements(self):
        for program in SMALL[::5] + KNOWN:
            for point in plain.points(program):
                if plain.kind(program, point) != "repeat":
                    self.check(program, point)

    def test_bound(self):
        for inner, outer in ((0, 57), (0, 58), (0, 59), (28, 2), (29, 0), (28, 3), (29, 1), (1, 56), (1, 57)):
            body = (("repeat", (("set", "x", (1, 1)),) * inner),) + (("input", "x"),) * outer
            program = (2, (), (("main", (), ("x",), (), body),))
            self.assertEqual(self.check(program, ("main", (0,))) is None, 2 + 2 * inner + outer > 60)

    def test_empty_block_and_nested_blocks(self):
        program = (2, (), (("main", (), ("x",), (), (
            ("repeat", ()), ("repeat", (("repeat", (("set", "x", (1, 1)), ("repeat", ()))), ("input", "x"))),
        )),))
        for point in plain.points(program):
            found = self.check(program, point)
            if found is not None:
                self.check_states(program, found)
        found = unrolled(program, ("main", (1, 0, 0)))
        self.assertEqual(found[1][("main", (1, 0, 0, 0, 1))],
                         (("main", (1, 0, 0, 0, 1)), ("main", (1, 0, 1, 1, 1))))
        self.assertEqual(found[1][("main", (1, 0, 1))], (("main", (1, 0, 2)),))

    def test_example(self):
        points = unrolled(Q, ("main", (2,)))[1]
        self.assertEqual(points[("main", (2, 0, 1))], (("main", (2, 0, 1)), ("main", (3, 1, 1))))

    def test_wrong_arguments(self):
        def repeat_at(args):
            return None if plain.kind(*args) == "repeat" else (InvalidChange,)

        check_all(self, unrolled, (Q, ("main", (2,))), [program_at(0), point_at(1), repeat_at], point_junk())


def uses(program, name, here):
    """The names of the variables that the statement uses."""
    rows = {"set": here[2:], "call": here[3:] and here[3]}.get(here[0], ())
    found = {word for row in rows for word in terms(program, name, row) if word}
    return found | set(program[1]) if here[0] == "call" else found


def gives(program, here):
    return set(here[1]) | set(program[1]) if here[0] == "call" else {here[1]}


def can_be_exchanged(program, point):
    name, place = point
    two = plain.statement(program, point)
    three = two and plain.statement(program, (name, plain.next_of(place)))
    if not two or not three or not {two[0], three[0]} <= {"set", "input", "call"} or two[0] == three[0] == "call":
        return False
    for one, other in ((two, three), (three, two)):
        if gives(program, one) & (uses(program, name, other) | gives(program, other)):
            return False
    return True


class Exchanged(Case):
    def check(self, program, point):
        if not can_be_exchanged(program, point):
            self.refused(InvalidChange(""), exchanged, program, point)
            return None
        changed, points = found = exchanged(program, point)
        self.check_points(program, found)
        name, place = point
        between = (name, plain.next_of(place))
        for other in plain.points(program):
            self.assertEqual(points[other], () if other == between else (other,))
        self.assertEqual(plain.statement(changed, point), plain.statement(program, between))
        self.assertEqual(plain.statement(changed, between), plain.statement(program, point))
        self.assertEqual(exchanged(changed, point)[0], program)
        return found

    def pairs(self):
        """Programs of few statements in a row, of all kinds, by chance."""
        for number in range(300):
            source = brute.seeded(number)
            shared = ("g",)[:source.choice((0, 0, 1))]
            variables = shared + ("x", "y", "z")[:source.randint(2, 3)]
            callee = ("f", ("a",), (), ("a",), ((("set", "g", (0, 1, 1)),) if shared else ()) + (("choose", ((), (
                ("set", "a", (1,) * (2 + len(shared))),))),))

            def row():
                return tuple(source.choice((0, 0, 0, 0, 1, 3)) for _ in range(1 + len(variables)))

            def statement():
                word = source.choice(("set", "set", "input", "call"))
                if word == "call":
                    return word, (source.choice(variables),), "f", (row(),)
                return (word, source.choice(variables)) + ((row(),) if word == "set" else ())

            body = tuple(statement() for _ in range(source.randint(2, 4)))
            if number % 3 == 0:
                body = (("input", variables[-1]), ("choose", (body, ())))
            yield 2, shared, (callee, ("main", (), variables[len(shared):], (), body))

    def test_pairs(self):
        kinds = {}
        for program in self.pairs():
            for point in plain.points(program):
                found = self.check(program, point)
                if found is not None:
                    self.check_states(program, found)
                    key = tuple(plain.kind(program, (point[0], at)) for at in (point[1], plain.next_of(point[1])))
                    kinds[key] = kinds.get(key, 0) + 1
        self.assertEqual(set(kinds), set(itertools.product(("set", "input", "call"), repeat=2)) - {("call", "call")})
        self.assertGreater(min(kinds.values()), 4)

    def test_all_points(self):
        for program in SMALL[::3] + LARGE:
            for number, point in enumerate(plain.points(program)):
                found = self.check(program, point)
                if found is not None and number % 3 == 0:
                    self.check_bases(program, found)

    def test_a_callee_that_never_returns(self):
        program = (3, (), (("f", (), (), (), (("call", (), "f", ()),)),
                           ("main", (), ("x", "y"), (), (("call", (), "f", ()), ("set", "x", (1, 0, 1)), ("input", "y")))))
        for point in plain.points(program):
            found = self.check(program, point)
            if found is not None:
                self.check_states(program, found)

    def test_coefficients(self):
        """A coefficient of 0 is no use; constants do not count."""
        for row, right in (((3, 0, 0), True), ((0, 1, 0), False), ((0, 0, 1), True), ((0, 2, 0), False)):
            body = (("set", "x", (1, 0, 0)), ("set", "y", row))
            program = (2, (), (("main", (), ("x", "y"), (), body),))
            self.assertEqual(self.check(program, ("main", (0,))) is not None, right)
        for row, right in (((3, 0, 0), True), ((0, 1, 0), True), ((0, 0, 1), False)):
            body = (("set", "x", row), ("set", "y", (1, 0, 0)))
            program = (2, (), (("main", (), ("x", "y"), (), body),))
            self.assertEqual(self.check(program, ("main", (0,))) is not None, right)

    def test_wrong_arguments(self):
        body = (("set", "x", (1, 0, 0)), ("set", "y", (1, 0, 0)), ("repeat", ()))
        program = (2, (), (("main", (), ("x", "y"), (), body),))

        def pair_at(args):
            return None if can_be_exchanged(*args) else (InvalidChange,)

        check_all(self, exchanged, (program, ("main", (0,))), [program_at(0), point_at(1), pair_at], point_junk())


def needed(program, point, row):
    """The least sets of needed variables, by name, in rounds."""
    found = {other: set() for other in plain.points(program)}
    found[point] = {word for word in terms(program, point[0], row) if word}
    before = None
    while before != found:
        before = {other: set(names) for other, names in found.items()}
        for name, place in plain.points(program):
            here = plain.statement(program, (name, place))
            if here is None or here[0] != "call":
                for move in plain.moves_at(program, (name, place), (0,)):
                    names = found[(name, plain.next_place(program, (name, place), move))]
                    for word in sorted(names):
                        if here and here[0] in ("set", "input") and here[1] == word:
                            if here[0] == "set":
                                found[(name, place)] |= set(terms(program, name, here[2])) - {""}
                        else:
                            found[(name, place)] = found[(name, place)] | {word}
                continue
            _, targets, callee, arguments = here
            last = (callee, plain.exit_of(program, callee))
            for word in sorted(found[(name, plain.next_of(place))]):
                if word in targets:
                    found[last] |= {plain.procedure(program, callee)[3][targets.index(word)]}
                elif word in program[1]:
                    found[last] |= {word}
                else:
                    found[(name, place)] |= {word}
            for word in sorted(found[(callee, (0,))]):
                parameters = plain.procedure(program, callee)[1]
                if word in program[1]:
                    found[(name, place)] |= {word}
                elif word in parameters:
                    found[(name, place)] |= set(terms(program, name, arguments[parameters.index(word)])) - {""}
    return found


class Sliced(Case):
    def check(self, program, point, row):
        found = sliced(program, point, row)
        sets = needed(program, point, row)
        rows = {}
        for name, place in plain.points(program):
            here = plain.statement(program, (name, place))
            if here and here[0] == "set" and here[1] not in sets[(name, plain.next_of(place))]:
                at = plain.column(program, name, here[1])
                rows[(name, place), 0] = tuple(int(k == at) for k in range(plain.state_size(program, name)))
        self.assertEqual(found, with_rows(program, rows))
        self.assertTrue(forms.is_program(found))
        return found

    def check_runs(self, program, point, row, found, length):
        """In walks by chance both programs have the same runs, and at the point the row has the same value."""
        source = brute.seeded(length)
        for _ in range(4):
            one, two = plain.first_configuration(program), plain.first_configuration(found)
            for _ in range(length):
                self.assertEqual([frame[:2] for frame in one[1]], [frame[:2] for frame in two[1]])
                if plain.point_of(one) == point:
                    values = [brute.dot(program[0], row, plain.state_of(new)) for new in (one, two)]
                    self.assertEqual(*values)
                moves = plain.moves_at(program, plain.point_of(one)) or [0]
                move = source.choice(moves)
                if plain.after(program, one, move) is None:
                    break
                one, two = plain.after(program, one, move), plain.after(found, two, move)

    def test_against_least_sets(self):
        changed = 0
        for number, program in enumerate(SMALL + LARGE):
            source = brute.seeded(number)
            for point in plain.points(program)[number % 2::2]:
                size = plain.state_size(program, point[0])
                row = tuple(source.choice((0, 0, 1)) for _ in range(size))
                found = self.check(program, point, row)
                changed += found != program
                self.check_runs(program, point, row, found, 20)
        self.assertGreater(changed, 200)

    def test_rows_without_variables(self):
        for program in KNOWN:
            for point in plain.points(program)[::7]:
                row = (1,) + (0,) * (plain.state_size(program, point[0]) - 1)
                found = self.check(program, point, row)
                for other in plain.points(found):
                    here = plain.statement(found, other)
                    if here and here[0] == "set":
                        self.assertEqual(terms(found, other[0], here[2]), {here[1]: 1})

    def test_by_hand(self):
        found = sliced(Q, ("main", (3,)), (5, 1, 0))[2][0][4]
        self.assertEqual(found, (("input", "x"), ("set", "y", (0, 0, 1)),
                                 ("repeat", (("set", "x", (1, 1, 0)), ("set", "y", (0, 0, 1))))))
        found = sliced(Q, ("main", (3,)), (0, 0, 1))[2][0][4]
        self.assertEqual(found, (("input", "x"), ("set", "y", (0, 1, 0)),
                                 ("repeat", (("set", "x", (0, 1, 0)), ("set", "y", (1, 0, 1))))))
        self.assertEqual(sliced(Q, ("main", (2, 0, 1)), (0, 1, 1)), Q)
        body = (("set", "x", (1, 0, 0)), ("set", "x", (2, 0, 0)), ("set", "y", (0, 1, 0)), ("set", "x", (3, 0, 0)))
        program = (3, (), (("main", (), ("x", "y"), (), body),))
        self.assertEqual(sliced(program, ("main", (4,)), (0, 0, 1))[2][0][4],
                         (("set", "x", (0, 1, 0)),) + body[1:3] + (("set", "x", (0, 1, 0)),))
        self.assertEqual(sliced(program, ("main", (3,)), (0, 1, 0))[2][0][4],
                         (("set", "x", (0, 1, 0)), body[1], ("set", "y", (0, 0, 1)), ("set", "x", (0, 1, 0))))

    def test_calls(self):
        """A global that is a target gets the result; other globals come from the callee's exit."""
        callee = ("f", ("p", "q"), (), ("q",), (("set", "g", (0, 0, 1, 0)), ("set", "q", (1, 0, 0, 1))))
        for target, g_kept, q_kept in (("g", True, False), ("x", False, True), ("y", False, True)):
            main = ("main", (), ("x", "y"), (), (
                ("set", "x", (2, 0, 0, 0)), ("set", "y", (3, 0, 0, 0)),
                ("call", (target,), "f", ((0, 0, 1, 0), (0, 0, 0, 1))),
            ))
            program = (3, ("g",), (callee, main))
            found = self.check(program, ("main", (3,)), (0, 1, 0, 0))
            inner = bodies(found)["f"]
            self.assertEqual(inner[0] != callee[4][0], g_kept)
            self.assertEqual(inner[1] != callee[4][1], q_kept)
            self.assertEqual(bodies(found)["main"][0] == main[4][0], target != "g")
            self.assertEqual(bodies(found)["main"][1] == main[4][1], target == "g")

    def test_all_rows_of_small_programs(self):
        for program in (P, R, SWAPS, ENDLESS):
            for point in plain.points(program)[::2]:
                size = plain.state_size(program, point[0])
                for row in itertools.product((0, 1), repeat=size):
                    self.check(program, point, row)

    def test_wrong_arguments(self):
        checks = [program_at(0), point_at(1), row_at(2)]
        check_all(self, sliced, (P, ("main", (1,)), (0, 4)), checks, ROWS + point_junk())
        for junk in few_junk() + much_junk()[:9]:
            if junk != ("main", (1,)):
                with self.assertRaises(UnknownPoint):
                    sliced(P, junk, junk)
