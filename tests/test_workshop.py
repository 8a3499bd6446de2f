"""Stage 16: the workshop, and [0.1] to [0.6] and [0.9] of it."""
import itertools
import unittest

from tests import brute, forms, plain
from tests.checks import is_point, is_row, point_junk
from tests.examples import ALL, P, Q, R, S
from tests.making import SWAPS, some_programs
from tests.test_edits import some_edits
from tests.test_invariants import ROWS, some_rows
from tests.wrong import few_junk, look, much_junk
from wordlaws.errors import InvalidEdit, InvalidNumber, InvalidProgram, InvalidRow, NothingToUndo, UnknownName
from wordlaws.errors import UnknownPoint
from wordlaws.facts.facts import same_bits
from wordlaws.facts.fewest import fewest_variables
from wordlaws.invariants.contracts import contract_basis
from wordlaws.invariants.invariants import invariant_basis, is_invariant
from wordlaws.invariants.tables import invariant_paper
from wordlaws.shop.edits import Add, Drop, Edit, Put, Replace, Several, Take
from wordlaws.shop.workshop import Workshop

SMALL = tuple(program for width in (1, 2, 4, 8) for program in some_programs(12, width, 12))
SAME = ("main", (3,)), (0, 1, 255)


def status_of(program, point, row):
    if not is_point(program, point) or not is_row(program, point[0], row):
        return "gone"
    return "invariant" if is_invariant(program, point, row) else "broken"


class Model:
    """A workshop that works out everything anew, with lists and dicts alone."""

    def __init__(self, program):
        self.programs = [program]
        self.watched = {}

    def statuses(self):
        return {name: status_of(self.programs[-1], *pair) for name, pair in self.watched.items()}

    def go_on(self, programs):
        before = self.statuses()
        self.programs = programs
        return tuple(sorted(pair for pair in self.statuses().items() if before[pair[0]] != pair[1]))


def told(workshop):
    """All that can be seen of a workshop."""
    names = list(workshop.watches())
    return (
        workshop.program, workshop.steps, list(workshop.history()), list(workshop.watches().items()),
        [workshop.status(name) for name in names], len(workshop), str(workshop),
    )


def expected(model):
    program = model.programs[-1]
    many = sum(plain.statement(program, point) is not None for point in plain.points(program))
    return (
        program, len(model.programs) - 1, model.programs, sorted(model.watched.items()),
        [status for _, status in sorted(model.statuses().items())], many,
        f"workshop of {len(program[2])} procedures, {len(model.programs) - 1} steps",
    )


class Case(unittest.TestCase):
    def refused(self, workshop, error, deed, *args, **named):
        """The deed raises the error, with its value, and the workshop stays as it was."""
        before = told(workshop)
        arguments = look((args, named))
        with self.assertRaises(type(error)) as caught:
            deed(*args, **named)
        self.assertIs(type(caught.exception), type(error))
        if not isinstance(error, ValueError):
            for key, value in vars(error).items():
                self.assertIs(vars(caught.exception)[key], value)
                self.assertEqual(look(vars(caught.exception)[key]), look(value))
        self.assertEqual(told(workshop), before)
        self.assertEqual(look((args, named)), arguments)


class Form(Case):
    def test_all_stands_in_the_class(self):
        kinds = {"STATUSES": tuple, "program": property, "steps": property, "twin_of": classmethod}
        for name in ("do", "undo", "load", "history", "watch", "unwatch", "status", "watches", "invariant_basis",
                     "is_invariant", "invariant_paper", "same_bits", "fewest_variables", "contract_basis", "__init__",
                     "__contains__", "__len__", "__eq__", "__str__", *kinds):
            self.assertIn(name, vars(Workshop))
            self.assertIsInstance(vars(Workshop)[name], kinds.get(name, object))
        self.assertIsNotNone(vars(Workshop)["program"].fset)
        self.assertIsNone(vars(Workshop)["steps"].fset)
        self.assertEqual(Workshop.STATUSES, ("broken", "gone", "invariant"))
        self.assertEqual(Workshop(Q).STATUSES, Workshop.STATUSES)

    def test_example(self):
        workshop = Workshop(Q)
        self.assertEqual(workshop.watch("same", *SAME), "invariant")
        self.assertEqual(workshop.do(Take(("main", (2, 0, 1)))), (("same", "broken"),))
        self.assertEqual(workshop.undo(), (("same", "invariant"),))
        self.assertEqual(workshop.do(Take(("main", (2,)))), (("same", "gone"),))
        self.assertEqual(len(workshop), 2)

    def test_wrong_programs(self):
        for junk in much_junk() + [Q[:2], list(Q), (True,) + Q[1:]]:
            with self.assertRaises(InvalidProgram):
                Workshop(junk)
            workshop = Workshop(Q)
            self.refused(workshop, InvalidProgram(""), workshop.load, junk)
            self.refused(workshop, InvalidProgram(""), setattr, workshop, "program", junk)

    def test_texts(self):
        for program in ALL:
            workshop = Workshop(program)
            self.assertEqual(str(workshop), f"workshop of {len(program[2])} procedures, 0 steps")
            workshop.load(Q)
            self.assertEqual(str(workshop), "workshop of 1 procedures, 1 steps")
            self.assertEqual(len(workshop), 5)
        self.assertEqual(len(Workshop((1, (), (("main", (), (), (), ()),)))), 0)


class Walks(Case):
    def some_watch(self, program, source):
        point = source.choice(plain.points(program))
        size = plain.state_size(program, point[0])
        row = source.choice(some_rows(program, point[0], source.randrange(99), 2) + [(0,) * size] + list(
            invariant_basis(program, point)))
        return source.choice(("a", "b", "c", "d", "e", "undo", "watch")), point, row

    def deed(self, workshop, model, source):
        """One thing that is done by chance to both."""
        program = model.programs[-1]
        word = source.choice(("do", "do", "do", "several", "undo", "undo", "load", "assign", "watch", "unwatch", "twin"))
        if word in ("do", "several"):
            now, chosen = program, []
            for _ in range(source.randint(0, 3)):
                edit = source.choice(some_edits(now, source))
                chosen.append(edit)
                try:
                    now = edit.applied(now)
                except InvalidEdit:
                    given = chosen if word == "do" else [Several(*chosen)]
                    self.refused(workshop, InvalidEdit(""), workshop.do, *given)
                    chosen.pop()
            news = model.go_on(model.programs + [now]) if chosen or word == "several" else ()
            self.assertEqual(workshop.do(*(chosen if word == "do" else [Several(*chosen)])), news)
        elif word == "undo":
            many, steps = source.choice((1, 1, 1, 2, 3, 5)), len(model.programs) - 1
            if many > steps:
                self.refused(workshop, NothingToUndo(steps), workshop.undo, many=many)
            else:
                news = model.go_on(model.programs[:-many])
                self.assertEqual(workshop.undo(many=many) if many > 1 or source.random() < 0.5 else workshop.undo(), news)
        elif word in ("load", "assign"):
            new = source.choice(SMALL[:20] + ALL + (program, model.programs[0]))
            news = model.go_on(model.programs + [new])
            if word == "load":
                self.assertEqual(workshop.load(new), news)
            else:
                workshop.program = new
        elif word == "watch":
            name, point, row = self.some_watch(program, source)
            if name in model.watched:
                self.refused(workshop, InvalidEdit(""), workshop.watch, name, point, row)
            else:
                model.watched[name] = point, row
                self.assertEqual(workshop.watch(name, point, row), status_of(program, point, row))
        elif word == "unwatch" and model.watched:
            name = source.choice(sorted(model.watched))
            del model.watched[name]
            self.assertIsNone(workshop.unwatch(name))
            self.refused(workshop, UnknownName(name), workshop.unwatch, name)

    def test_walks(self):
        """Statuses and news through all kinds of steps, against everything worked out anew."""
        statuses = {}
        for number, program in enumerate(SMALL + ALL + (SWAPS,)):
            source = brute.seeded(number)
            workshop, model = Workshop(program), Model(program)
            for _ in range(4):
                name, point, row = self.some_watch(program, source)
                if name not in model.watched:
                    model.watched[name] = point, row
                    workshop.watch(name, point, row)
            for _ in range(14):
                self.deed(workshop, model, source)
                self.assertEqual(told(workshop), expected(model))
                for status in model.statuses().values():
                    statuses[status] = statuses.get(status, 0) + 1
            back = len(model.programs) - 1
            if back:
                news = model.go_on(model.programs[:1])
                self.assertEqual(workshop.undo(many=back), news)
                self.assertEqual(told(workshop), expected(model))
        self.assertGreater(min(statuses[word] for word in Workshop.STATUSES), 200)

    def test_twins_go_their_own_way(self):
        for number, program in enumerate(SMALL[::3] + ALL):
            source = brute.seeded(number)
            workshop, model = Workshop(program), Model(program)
            for _ in range(6):
                self.deed(workshop, model, source)
            twin, other = Workshop.twin_of(workshop), Model(program)
            other.programs, other.watched = list(model.programs), dict(model.watched)
            self.assertIs(twin == workshop, True)
            self.assertEqual(type(twin), Workshop)
            for _ in range(8):
                if source.random() < 0.5:
                    self.deed(workshop, model, source)
                else:
                    self.deed(twin, other, source)
                self.assertEqual((told(workshop), told(twin)), (expected(model), expected(other)))
                same = model.programs == other.programs and model.watched == other.watched
                self.assertIs(workshop == twin, same)
                self.assertIs(workshop != twin, not same)


class Steps(Case):
    def test_do_without_edits(self):
        workshop = Workshop(Q)
        self.assertEqual((workshop.do(), workshop.steps), ((), 0))
        self.assertEqual((workshop.do(Several()), workshop.steps), ((), 1))
        self.assertEqual((workshop.do(Several(), Several()), workshop.steps), ((), 2))
        self.assertEqual(list(workshop.history()), [Q, Q, Q])
        self.assertEqual((workshop.do(), workshop.steps), ((), 2))
        self.assertEqual((workshop.undo(many=2), workshop.steps), ((), 0))

    def test_all_or_none(self):
        workshop = Workshop(Q)
        workshop.watch("same", *SAME)
        take = Take(("main", (2, 0, 1)))
        for edits in ((take, take), (take, 0), (0, take), (take, Several(None)), (Take(("main", (9,))),), (Edit(),),
                      (take, Drop("main")), (take, Add(Q[2][0])), (Take,), ([take],), ((take,),), (take, None, take)):
            self.refused(workshop, InvalidEdit(""), workshop.do, *edits)
        for junk in much_junk():
            self.refused(workshop, InvalidEdit(""), workshop.do, junk)
            self.refused(workshop, InvalidEdit(""), workshop.do, take, junk)
        self.assertEqual(workshop.do(take, Take(("main", (2, 0, 0)))), ())
        self.assertEqual((workshop.steps, workshop.program[2][0][4][2]), (1, ("repeat", ())))
        self.assertEqual((workshop.undo(), workshop.program), ((), Q))

    def test_only_the_last_program_counts(self):
        """News of a step tell what differs behind it, whatever was between its edits."""
        workshop = Workshop(Q)
        workshop.watch("same", *SAME)
        take = Take(("main", (2, 0, 1)))
        self.assertEqual(workshop.do(take, take.inverse(Q)), ())
        self.assertEqual(workshop.do(take), (("same", "broken"),))
        self.assertEqual(workshop.do(Take(("main", (2,)))), (("same", "gone"),))
        self.assertEqual(workshop.undo(many=3), (("same", "invariant"),))

    def test_wrong_numbers_to_undo(self):
        workshop = Workshop(Q)
        for steps in range(3):
            for junk in much_junk():
                if type(junk) is int and junk >= 1:
                    if junk > steps:
                        self.refused(workshop, NothingToUndo(steps), workshop.undo, many=junk)
                else:
                    self.refused(workshop, InvalidNumber(junk), workshop.undo, many=junk)
            with self.assertRaises(TypeError):
                workshop.undo(1)
            workshop.do(Several())

    def test_assignment(self):
        workshop = Workshop(Q)
        workshop.watch("same", *SAME)
        workshop.program = Q
        workshop.program = P
        self.assertEqual((workshop.steps, workshop.status("same")), (2, "gone"))
        self.assertEqual(workshop.load(P), ())
        self.assertEqual(list(workshop.history()), [Q, Q, P, P])
        self.assertEqual(workshop.load(Q), (("same", "invariant"),))
        self.assertEqual(workshop.undo(many=4), ())
        with self.assertRaises(AttributeError):
            workshop.steps = 0

    def test_history_that_is_read_in_part(self):
        workshop = Workshop(Q)
        workshop.load(P)
        history = workshop.history()
        self.assertEqual(next(history), Q)
        workshop.load(R)
        workshop.undo(many=2)
        self.assertEqual(list(history), [P])
        self.assertEqual(list(workshop.history()), [Q])
        one, two = workshop.history(), workshop.history()
        self.assertEqual((next(one), next(two), next(one, 0), next(two, 0)), (Q, Q, 0, 0))


class Watches(Case):
    def test_errors_in_their_order(self):
        workshop = Workshop(Q)
        workshop.watch("same", *SAME)
        point, row = SAME
        for name, where, what, error in (
            ("same", None, None, InvalidEdit("")), ("Same", None, None, InvalidEdit("")), ("", point, row, InvalidEdit("")),
            ("same", point, row, InvalidEdit("")), (None, point, None, InvalidEdit("")), ("ninechars", point, row, InvalidEdit("")),
            ("other", None, None, UnknownPoint(None)), ("other", point, None, InvalidRow("")),
            ("other", point, (0, 1), InvalidRow("")), ("other", point, (0, 1, 256), InvalidRow("")),
            ("other", point, [0, 1, 255], InvalidRow("")), ("other", point, (0, True, 255), InvalidRow("")),
        ):
            self.refused(workshop, error, workshop.watch, name, where, what)
        for junk in much_junk():
            if not forms.is_name(junk):
                self.refused(workshop, InvalidEdit(""), workshop.watch, junk, point, row)
                self.refused(workshop, UnknownName(junk), workshop.unwatch, junk)
                self.refused(workshop, UnknownName(junk), workshop.status, junk)
        for junk in much_junk() + point_junk():
            if not is_point(Q, junk):
                self.refused(workshop, UnknownPoint(junk), workshop.watch, "other", junk, row)
                self.refused(workshop, UnknownPoint(junk), workshop.watch, "other", junk, junk)
        self.refused(workshop, UnknownName("other"), workshop.status, "other")
        self.refused(workshop, UnknownName("other"), workshop.unwatch, "other")

    def test_names(self):
        workshop = Workshop(Q)
        names = ("watch", "a", "main", "x", "status", "none", "eightabc")
        for name in names:
            self.assertIs(name in workshop, False)
            workshop.watch(name, *SAME)
            self.assertIs(name in workshop, True)
        self.assertEqual(list(workshop.watches()), sorted(names))
        for junk in much_junk() + [("a",), ["a"], {"a": 1}, "A", workshop]:
            self.assertIs(junk in workshop, type(junk) is str and junk in names)
        self.assertEqual(workshop.do(Take(("main", (2, 0, 1)))), tuple((name, "broken") for name in sorted(names)))

    def test_they_stay_as_they_are(self):
        """Edits and undo leave points and rows; what is returned can be changed without harm."""
        workshop = Workshop(Q)
        workshop.watch("same", *SAME)
        found = workshop.watches()
        self.assertEqual(found, {"same": SAME})
        found.clear()
        workshop.watches()["other"] = SAME
        workshop.load(R)
        self.assertEqual(workshop.watches(), {"same": SAME})
        workshop.undo()
        self.assertEqual(workshop.watches(), {"same": SAME})
        self.assertEqual(workshop.status("same"), "invariant")

    def test_points_variables_and_procedures_that_come_back(self):
        workshop = Workshop(P)
        watches = {"even": (("main", (1,)), (0, 8)), "inner": (("f", (0, 1, 0)), (0, 8)), "wrong": (("f", (1,)), (0, 4))}
        for name, (point, row) in watches.items():
            self.assertEqual(workshop.watch(name, point, row), "broken" if name == "wrong" else "invariant")
        self.assertEqual(workshop.do(Take(("main", (0,))), Drop("f")),
                         (("even", "gone"), ("inner", "gone"), ("wrong", "gone")))
        self.assertEqual(workshop.do(Put(("main", (0,)), ("input", "x"))), (("even", "broken"),))
        self.assertEqual(workshop.do(Add(P[2][0])), (("inner", "invariant"), ("wrong", "invariant")))
        self.assertEqual(workshop.do(Replace(("main", (0,)), P[2][1][4][0])),
                         (("even", "invariant"), ("wrong", "broken")))
        self.assertEqual(workshop.program, P)
        narrow = (3,) + P[1:2] + (tuple(entry[:4] + ((),) for entry in P[2]),)
        self.assertEqual(workshop.load(narrow), (("even", "gone"), ("inner", "gone"), ("wrong", "gone")))
        self.assertEqual(workshop.undo(many=2), (("even", "broken"), ("inner", "invariant"), ("wrong", "invariant")))
        wider = (4, (), (P[2][0], ("main", (), ("x", "y"), (), (("input", "x"),))))
        self.assertEqual(workshop.load(wider), (("even", "gone"),))

    def test_unreachable_points(self):
        workshop = Workshop(R)
        self.assertEqual(workshop.watch("never", ("main", (2,)), (1, 0, 0)), "invariant")
        self.assertEqual(workshop.do(Replace(("main", (1,)), ("repeat", ()))), (("never", "broken"),))


class Answers(Case):
    def test_they_are_those_of_the_functions(self):
        for number, program in enumerate(SMALL[::2] + ALL):
            workshop = Workshop(R)
            workshop.load(program)
            source = brute.seeded(number)
            for _ in range(3):
                now = workshop.program
                for point in source.sample(plain.points(now), 2):
                    row = some_rows(now, point[0], number, 1)[0]
                    self.assertEqual(workshop.invariant_basis(point), invariant_basis(now, point))
                    self.assertIs(workshop.is_invariant(point, row), is_invariant(now, point, row))
                    self.assertEqual(workshop.invariant_paper(point, row), invariant_paper(now, point, row))
                    self.assertEqual(workshop.same_bits(point, row), same_bits(now, point, row))
                    self.assertEqual(workshop.fewest_variables(point, row), fewest_variables(now, point, row))
                for name in plain.names(now):
                    self.assertEqual(workshop.contract_basis(name), contract_basis(now, name))
                    for observed in (True, False):
                        self.assertEqual(workshop.contract_basis(name, observed=observed),
                                         contract_basis(now, name, observed=observed))
                for edit in some_edits(now, source):
                    try:
                        workshop.do(edit)
                    except InvalidEdit:
                        pass

    def test_their_errors(self):
        workshop = Workshop(P)
        workshop.watch("even", ("main", (1,)), (0, 8))
        rights = ("main", (1,)), (0, 8)
        for function in (workshop.is_invariant, workshop.invariant_paper, workshop.same_bits, workshop.fewest_variables):
            for junk in much_junk() + point_junk():
                if not is_point(P, junk):
                    self.refused(workshop, UnknownPoint(junk), function, junk, rights[1])
                    self.refused(workshop, UnknownPoint(junk), function, junk, junk)
            for junk in much_junk() + ROWS:
                if not is_row(P, "main", junk):
                    self.refused(workshop, InvalidRow(""), function, rights[0], junk)
        for junk in much_junk() + point_junk():
            if not is_point(P, junk):
                self.refused(workshop, UnknownPoint(junk), workshop.invariant_basis, junk)
            if junk not in ("f", "main"):
                self.refused(workshop, UnknownName(junk), workshop.contract_basis, junk)
                self.refused(workshop, UnknownName(junk), workshop.contract_basis, junk, observed=junk)

    def test_what_was_asked_before_changes_nothing(self):
        workshop = Workshop(Q)
        before = [workshop.invariant_basis(point) for point in plain.points(Q)]
        for program in ALL:
            workshop.load(program)
            for point in plain.points(program)[::3]:
                workshop.invariant_basis(point)
                invariant_basis(program, point)
        workshop.undo(many=4)
        self.assertEqual([workshop.invariant_basis(point) for point in plain.points(Q)], before)
        self.assertIs(workshop == Workshop(Q), True)


class Equality(Case):
    def test_equality(self):
        def some():
            yield Workshop(Q)
            yield Workshop(P)
            for deeds in (("load",), ("load", "load"), ("load", "undo", "load", "load", "watch"), ("watch",),
                          ("load", "watch"), ("other",), ("watch", "other"), ("name",)):
                workshop = Workshop(Q)
                for deed in deeds:
                    if deed == "load":
                        workshop.load(Q)
                    elif deed == "undo":
                        workshop.undo()
                    else:
                        row = (0, 1, 254) if deed == "other" else (0, 1, 255)
                        workshop.watch("name" if deed == "name" else deed[:5], ("main", (3,)), row)
                yield workshop

        for (at, one), (place, other) in itertools.product(enumerate(some()), repeat=2):
            self.assertIs(one == other, at == place)
            self.assertIs(one != other, at != place)
        for junk in much_junk() + [Q, str(Workshop(Q)), Workshop]:
            self.assertIs(Workshop(Q) == junk, False)

    def test_the_order_of_watches(self):
        one, two = Workshop(Q), Workshop(Q)
        for workshop, names in ((one, "ab"), (two, "ba")):
            for name in names:
                workshop.watch(name, *SAME)
        self.assertIs(one == two, True)
        two.unwatch("a")
        self.assertIs(one == two, False)

    def test_steps_that_were_undone(self):
        one, two = Workshop(Q), Workshop(Q)
        one.load(S)
        one.undo()
        self.assertIs(one == two, True)

    def test_twins_of_others(self):
        for junk in few_junk() + [Q, Workshop, Edit()]:
            with self.assertRaises(InvalidEdit):
                Workshop.twin_of(junk)
        twin = Workshop.twin_of(Workshop(Q))
        self.assertIs(Workshop(Q).twin_of(twin) == twin, True)
