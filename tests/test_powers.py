"""[15.1] to [15.3], and [0.1] to [0.5] and [0.9] of the functions on forms."""
import itertools
import unittest

from tests import brute, forms, plain
from tests.checks import changed_parts, check_all, point_at, point_junk
from tests.examples import P, Q
from tests.making import KNOWN, some_programs
from tests.test_machine import RUN_JUNK, some_runs
from tests.wrong import check_call, few_junk, much_junk
from wordlaws.errors import InvalidNumber, InvalidProgram, InvalidVector
from wordlaws.facts.powers import breaking_run, form_basis, is_breaking_run, is_closed_form_table, is_form_invariant
from wordlaws.facts.powers import least_form_table, monomials_of
from wordlaws.invariants.invariants import invariant_basis
from wordlaws.modules.bases import basis_of, contains
from wordlaws.modules.duals import annihilator
from wordlaws.runs.machine import is_run, state_after


def without_calls(program):
    """The program with inputs of the targets in the place of calls."""
    def block(statements):
        for here in statements:
            if here[0] == "call":
                yield from (("input", target) for target in here[1])
            elif here[0] == "choose":
                yield "choose", tuple(tuple(block(part)) for part in here[1])
            elif here[0] == "repeat":
                yield "repeat", tuple(block(here[1]))
            else:
                yield here
    procedures = tuple(entry[:4] + (tuple(block(entry[4])),) for entry in program[2])
    return program[0], program[1], procedures


def program_of(width, variables, *body):
    return width, (), (("main", (), tuple(variables), (), body),)


SMALL = tuple(without_calls(program) for width in (1, 2, 3) for program in some_programs(50, width))
LARGE = (Q,) + tuple(without_calls(program) for width in (8, 16) for program in some_programs(15, width, 14))
GROWS = program_of(
    16, "abcd", ("input", "a"), ("repeat", (
        ("choose", ((("set", "b", (1, 3, 0, 7, 0)),), (("input", "c"), ("set", "d", (4096, 0, 1, 1, 0))),
                    (("set", "c", (2, 0, 0, 3, 8)), ("repeat", (("set", "d", (0, 0, 0, 0, 3)),))))),
        ("set", "a", (3, 0, 2, 0, 0)),
    )),
)
WITH_CALLS = tuple(program for program in KNOWN if program != Q) + ((2, (), (
    ("f", (), (), (), (("repeat", (("choose", ((), (("call", (), "f", ()),))),)),)), ("main", (), (), (), ()),
)),)


def monomials(many, degree):
    """All of them, by a search."""
    return tuple(
        found for length in range(degree + 1) for found in itertools.product(range(1, many + 1), repeat=length)
        if list(found) == sorted(found)
    )


def powers(program, name, degree, state):
    found = []
    for monomial in monomials(plain.state_size(program, name) - 1, degree):
        value = 1
        for number in monomial:
            value *= state[number]
        found.append(value % 2 ** program[0])
    return tuple(found)


def form_size(program, name, degree):
    return len(monomials(plain.state_size(program, name) - 1, degree))


def main_places(program):
    return [point for point in plain.points(program) if point[0] == "main"]


def some_forms(program, point, degree, number, many):
    return brute.some_vectors(brute.seeded(number), program[0], form_size(program, point[0], degree), many)


def put_row(width, many, degree, at, row):
    """For each monomial the form that one gets by putting the row in the place of a variable, by multiplying out."""
    some = monomials(many, degree)
    found = []
    for monomial in some:
        total = {}
        for choice in itertools.product(range(many + 1), repeat=len(monomial)):
            word = 1
            for number, chosen in zip(monomial, choice):
                word *= row[chosen] if number == at else int(number == chosen)
            key = tuple(sorted(chosen for chosen in choice if chosen))
            total[key] = total.get(key, 0) + word
        found.append(tuple(total.get(other, 0) % 2 ** width for other in some))
    return found


PUT = {}


def vectors_behind(program, degree, point, vectors):
    """The pairs of a place of main and a vector that a closed form table has there."""
    here = plain.statement(program, point)
    width, many = program[0], plain.state_size(program, "main") - 1
    words = sorted({word % 2 ** width for word in range(degree + 1)}) if here and here[0] == "input" else None
    for move in plain.moves_at(program, point, words):
        place = plain.next_place(program, point, move)
        if here and here[0] in ("set", "input"):
            at = plain.column(program, "main", here[1])
            row = here[2] if here[0] == "set" else (move,) + (0,) * many
            key = width, many, degree, at, row
            if key not in PUT:
                PUT[key] = put_row(*key)
            for vector in vectors:
                yield ("main", place), tuple(brute.dot(width, form, vector) for form in PUT[key])
        else:
            for vector in vectors:
                yield ("main", place), vector


def is_closed(program, degree, value):
    """[15.3], word for word, with bases that are known ones or are checked by the package."""
    from wordlaws.modules.bases import is_basis
    size = form_size(program, "main", degree)
    if type(value) is not dict or [type(key) for key in value] != [tuple] * len(value):
        return False
    if sorted(map(repr, value)) != sorted(map(repr, main_places(program))):
        return False
    if not all(is_basis(program[0], size, basis) for basis in value.values()):
        return False
    first = powers(program, "main", degree, (1,) + (0,) * (plain.state_size(program, "main") - 1))
    if not contains(program[0], size, value[("main", (0,))], first):
        return False
    return all(
        contains(program[0], size, value[new], vector)
        for point in main_places(program) for new, vector in vectors_behind(program, degree, point, value[point])
    )


def closed_from(program, degree, vectors):
    """The least closed table whose bases contain these vectors: a dict from points to vectors."""
    size = form_size(program, "main", degree)
    first = powers(program, "main", degree, (1,) + (0,) * (plain.state_size(program, "main") - 1))
    bases = {point: () for point in main_places(program)}
    pending = [(("main", (0,)), first)] + [(point, vector) for point, some in vectors.items() for vector in some]
    while pending:
        point, vector = pending.pop()
        if not contains(program[0], size, bases[point], vector):
            bases[point] = basis_of(program[0], size, bases[point] + (vector,))
            pending.extend(vectors_behind(program, degree, point, (vector,)))
    return bases


def program_check(args):
    if not forms.is_program(args[0]):
        return (InvalidProgram,)
    return (InvalidProgram,) if any(plain.kind(args[0], point) == "call" for point in plain.points(args[0])) else None


def degree_at(place):
    return lambda args: None if brute.is_int(args[place], 2, 3) else (InvalidNumber, "value", args[place])


def is_form(program, name, degree, value):
    return brute.is_vector(program[0], form_size(program, name, degree), value)


def form_check(args):
    """The form follows the program, the point and the degree."""
    return None if is_form(args[0], args[1][0], args[2], args[3]) else (InvalidVector,)


class Monomials(unittest.TestCase):
    def test_all(self):
        for many, degree in itertools.product(range(5), (2, 3)):
            self.assertEqual(monomials_of(many, degree), monomials(many, degree))
        self.assertEqual(len(monomials_of(4, 3)), 35)
        self.assertEqual(monomials_of(0, 3), ((),))
        self.assertEqual(monomials_of(2, 2), ((), (1,), (2,), (1, 1), (1, 2), (2, 2)))
        self.assertEqual(monomials_of(1, 3), ((), (1,), (1, 1), (1, 1, 1)))

    def test_wrong_arguments(self):
        def count_check(args):
            return None if brute.is_int(args[0], 0, 4) else (InvalidNumber, "value", args[0])

        check_all(self, monomials_of, (2, 2), [count_check, degree_at(1)], (5, -1, 4, 3))


class Forms(unittest.TestCase):
    def check(self, program, point, degree, form, right):
        self.assertIs(is_form_invariant(program, point, degree, form), right)
        run = breaking_run(program, point, degree, form)
        if right:
            self.assertIsNone(run)
            return
        self.assertIs(is_breaking_run(program, point, degree, form, run), True)
        found = plain.configuration(program, run)
        self.assertEqual(plain.point_of(found), point)
        value = powers(program, point[0], degree, plain.state_of(found))
        self.assertNotEqual(brute.dot(program[0], form, value), 0)

    def test_against_all_states(self):
        rights = [0, 0]
        for number, program in enumerate(SMALL[::2]):
            reached = plain.reached_by_runs(program)
            degree = 2 + number % 2
            table = {}
            for point in plain.points(program):
                size = form_size(program, point[0], degree)
                vectors = {powers(program, point[0], degree, state) for state in reached.states(point)}
                table[point] = basis_of(program[0], size, tuple(vectors))
                basis = form_basis(program, point, degree)
                self.assertEqual(basis, annihilator(program[0], size, table[point]))
                for form in basis[:2] + some_forms(program, point, degree, number, 2):
                    right = not any(brute.dot(program[0], form, vector) for vector in vectors)
                    self.check(program, point, degree, form, right)
                    rights[right] += 1
            least = least_form_table(program, degree)
            self.assertEqual(least, {point: table[point] for point in main_places(program)})
            self.assertEqual(list(least), main_places(program))
        self.assertGreater(min(rights), 300)

    def test_large(self):
        for number, program in enumerate(LARGE + (GROWS,)):
            degree = 2 + number % 2
            table = least_form_table(program, degree)
            self.assertEqual(table, closed_from(program, degree, {}))
            for point in main_places(program)[number % 6::6]:
                size = form_size(program, point[0], degree)
                basis = annihilator(program[0], size, table[point])
                self.assertEqual(form_basis(program, point, degree), basis)
                for form in basis[:2] + some_forms(program, point, degree, number, 2):
                    right = not any(brute.dot(program[0], form, vector) for vector in table[point])
                    self.check(program, point, degree, form, right)

    def test_rows_are_forms(self):
        """The invariants of stage 10 are those forms in which the other coefficients are 0."""
        for program in SMALL[::5] + LARGE[::3]:
            for point in plain.points(program)[::3]:
                size = form_size(program, point[0], 2)
                for row in invariant_basis(program, point):
                    form = row + (0,) * (size - len(row))
                    self.check(program, point, 2, form, True)

    def test_the_form_that_is_always_an_invariant(self):
        """x * x - x is even."""
        for width, degree in itertools.product((1, 2, 8, 16), (2, 3)):
            program = program_of(width, "xy", ("input", "x"), ("repeat", (("input", "y"), ("set", "x", (1, 1, 1)))))
            for point in plain.points(program):
                for at in (1, 2):
                    words = {(at,): -1, (at, at): 1}
                    form = tuple(words.get(key, 0) * 2 ** (width - 1) % 2 ** width for key in monomials(2, degree))
                    self.check(program, point, degree, form, True)

    def test_inputs(self):
        """Behind an input of one variable the invariants are the polynomials that are 0 everywhere."""
        for width, degree in itertools.product((1, 2, 3, 4), (2, 3)):
            program = program_of(width, "x", ("input", "x"))
            found = set()
            for form in itertools.product(range(2 ** width), repeat=degree + 1):
                if all(sum(c * x ** k for k, c in enumerate(form)) % 2 ** width == 0 for x in range(2 ** width)):
                    found.add(form)
            basis = form_basis(program, ("main", (1,)), degree)
            self.assertEqual(brute.span(width, degree + 1, basis), found)

    def test_other_procedures(self):
        """No run leads to them, so all forms are invariants; the size is that of the procedure of the point."""
        program = (3, ("g",), (("f", ("a", "b"), (), (), (("set", "a", (1, 1, 1, 1)),)),
                               ("main", (), (), (), (("input", "g"),))))
        for degree, size in ((2, 10), (3, 20)):
            for point in (("f", (0,)), ("f", (1,))):
                units = tuple(tuple(int(k == at) for k in range(size)) for at in range(size))
                self.assertEqual(form_basis(program, point, degree), units)
                for form in some_forms(program, point, degree, 1, 3):
                    self.check(program, point, degree, form, True)
                    self.assertIs(is_breaking_run(program, point, degree, form, ()), False)
            self.assertEqual(len(form_basis(program, ("main", (0,)), degree)), degree)
            self.assertEqual(list(least_form_table(program, degree)), [("main", (0,)), ("main", (1,))])

    def test_no_variables(self):
        program = program_of(4, "", ("repeat", ()))
        for degree in (2, 3):
            self.assertEqual(form_basis(program, ("main", (1,)), degree), ())
            self.check(program, ("main", (1,)), degree, (3,), False)
            self.assertEqual(least_form_table(program, degree)[("main", (0, 0, 0))], ((1,),))

    def test_unreachable_points(self):
        """Without calls each point of main is reached."""
        for program in SMALL:
            for basis in least_form_table(program, 2).values():
                self.assertNotEqual(basis, ())

    def test_example(self):
        self.assertEqual(form_basis(Q, ("main", (3,)), 2), (
            (0, 1, 127, 0, 0, 128), (0, 0, 128, 0, 0, 128), (0, 0, 0, 1, 0, 255), (0, 0, 0, 0, 1, 255)))

    def test_programs_with_calls(self):
        for program in WITH_CALLS:
            for point in (plain.points(program)[0], 0):
                for degree in (2, 5):
                    for function, args in ((form_basis, ()), (is_form_invariant, ((),)), (breaking_run, (0,)),
                                           (is_breaking_run, (0, 0))):
                        with self.assertRaises(InvalidProgram):
                            function(program, point, degree, *args)
                    with self.assertRaises(InvalidProgram):
                        least_form_table(program, degree)
                    with self.assertRaises(InvalidProgram):
                        is_closed_form_table(program, degree, {})

    def test_wrong_arguments(self):
        def right(program, point, degree, value):
            return is_form(program, point[0], degree, value) and breaking_run(program, point, degree, value) is None

        program = program_of(3, "x", ("input", "x"))
        checks = [program_check, point_at(1), degree_at(2)]
        extra = point_junk() + [(0, 4, 4), (0, 4, 4, 0), (0, 4), (0, 4, 8), (0, True, 4), [0, 4, 4], P, (0, 4, 5), Q]
        check_all(self, form_basis, (program, ("main", (1,)), 2), checks, extra)
        check_all(self, is_form_invariant, (program, ("main", (1,)), 2, (0, 4, 4)), checks, extra, right)
        check_all(self, breaking_run, (program, ("main", (1,)), 2, (0, 4, 4)), checks + [form_check], extra)


class Runs(unittest.TestCase):
    def breaks(self, program, point, degree, form, value):
        found = plain.configuration(program, value)
        if found is None or plain.point_of(found) != point:
            return False
        return brute.dot(program[0], form, powers(program, point[0], degree, plain.state_of(found))) != 0

    def check(self, *args):
        right = self.breaks(*args)
        self.assertIs(is_breaking_run(*args), right, args)
        return right

    def test_runs_by_chance(self):
        rights = [0, 0]
        for number, program in enumerate(SMALL[::3] + LARGE):
            degree = 2 + number % 2
            points = plain.points(program)
            for run in some_runs(program, number, 4, 12):
                point, _ = state_after(program, run)
                for form in some_forms(program, point, degree, number, 2):
                    rights[self.check(program, point, degree, form, run)] += 1
                other = points[number % len(points)]
                rights[self.check(program, other, degree, some_forms(program, other, degree, 1, 1)[0], run)] += 1
        self.assertGreater(min(rights), 80)

    def test_changed_runs(self):
        for number, program in enumerate((Q,) + SMALL[::20]):
            for run in some_runs(program, number, 2, 6):
                point, _ = state_after(program, run)
                form = some_forms(program, point, 3, number, 1)[0]
                for value in changed_parts(run, (0, 1, 2, None, True, ())):
                    self.check(program, point, 3, form, value)

    def test_long_runs(self):
        run = (5, 0) + (1, 0, 0, 0) * 3000 + (0,)
        self.assertIs(is_run(Q, run), True)
        form = (1, 0, 0, 0, 0, 0)
        self.assertIs(is_breaking_run(Q, ("main", (3,)), 2, form, run), True)
        self.assertIs(is_breaking_run(Q, ("main", (3,)), 2, (0, 1, 255, 0, 0, 0), run), False)

    def test_wrong_arguments(self):
        program = program_of(3, "x", ("input", "x"))
        valid = (program, ("main", (1,)), 2, (0, 4, 1), (3,))
        checks = [program_check, point_at(1), degree_at(2), form_check]
        extra = point_junk() + RUN_JUNK + [(0, 4, 4), (0, 4), [0, 4, 4], P, (3,), (8,), (7,)]
        check_all(self, is_breaking_run, valid, checks, extra, self.breaks)


class Tables(unittest.TestCase):
    def check(self, program, degree, value):
        right = is_closed(program, degree, value)
        self.assertIs(is_closed_form_table(program, degree, value), right)
        return right

    def test_least_tables(self):
        for number, program in enumerate(SMALL[::4] + LARGE):
            degree = 2 + number % 2
            table = least_form_table(program, degree)
            self.assertTrue(self.check(program, degree, table))
            self.assertIs(self.check(program, degree, dict(reversed(table.items()))), True)
            self.assertFalse(form_size(program, "main", 2) > 1 and self.check(program, 5 - degree, table))

    def test_larger_closed_tables(self):
        larger = 0
        for number, program in enumerate(SMALL[::3] + LARGE[::2]):
            degree = 2 + number % 2
            source = brute.seeded(number)
            table = least_form_table(program, degree)
            vectors = {
                point: some_forms(program, point, degree, source.randrange(999), 1)
                for point in main_places(program) if source.random() < 0.4
            }
            found = closed_from(program, degree, vectors)
            larger += found != table
            self.assertTrue(self.check(program, degree, found))
            size = form_size(program, "main", degree)
            whole = tuple(tuple(int(k == at) for k in range(size)) for at in range(size))
            self.assertTrue(self.check(program, degree, {point: whole for point in table}))
            self.assertFalse(self.check(program, degree, {point: () for point in table}))
        self.assertGreater(larger, 20)

    def test_a_vector_more_or_less(self):
        rights = [0, 0]
        for number, program in enumerate(SMALL[::4] + LARGE[::4]):
            degree = 2 + number % 2
            size = form_size(program, "main", degree)
            table = least_form_table(program, degree)
            for point in list(table)[number % 2::2]:
                basis = table[point]
                more = basis_of(program[0], size, basis + some_forms(program, point, degree, number, 1))
                less = [basis_of(program[0], size, basis[:at] + basis[at + 1:]) for at in range(len(basis))]
                half = basis_of(program[0], size, tuple(brute.times(program[0], row, 2) for row in basis))
                for new in [more, half] + less[:3] + [basis[1:]]:
                    rights[self.check(program, degree, {**table, point: new})] += 1
        self.assertGreater(min(rights), 40)

    def test_bases_that_are_none(self):
        table = least_form_table(Q, 2)
        for point, basis in table.items():
            for new in (basis[::-1], list(basis), basis + basis[-1:], basis + ((0,) * 6,), [*basis], None, 0, (None,),
                        basis[:1] + ((0, 0, 0, 0, 0, 1, 0),), tuple(row[:5] for row in basis), (basis,),
                        tuple(list(row) for row in basis), (True,) + basis, ((True,) + basis[0][1:],) + basis[1:]):
                if new != basis:
                    self.assertIs(self.check(Q, 2, {**table, point: new}), False)

    def test_other_keys(self):
        table = least_form_table(Q, 2)
        for key in (("main", (4,)), ("f", (0,)), "main", None, 0, (), ("main", (2, 1, 0)), ("main", (0,), 0)):
            self.assertIs(self.check(Q, 2, {**table, key: ()}), False)
            for point in table:
                changed = dict(table)
                changed[key] = changed.pop(point)
                self.assertIs(self.check(Q, 2, changed), False)
        for point in table:
            changed = dict(table)
            del changed[point]
            self.assertIs(self.check(Q, 2, changed), False)

    def test_points_of_other_procedures(self):
        program = (1, (), (("f", (), (), (), ()), ("main", (), (), (), ())))
        self.assertIs(self.check(program, 2, {("main", (0,)): ((1,),)}), True)
        self.assertIs(self.check(program, 2, {("main", (0,)): ((1,),), ("f", (0,)): ()}), False)
        self.assertIs(self.check(program, 2, {("f", (0,)): ((1,),)}), False)
        self.assertIs(self.check(program, 2, {("main", (0,)): ()}), False)

    def test_booleans_in_keys(self):
        program = program_of(1, "", ("repeat", ()))
        table = least_form_table(program, 2)
        self.assertTrue(self.check(program, 2, table))
        for point in list(table):
            for at, part in enumerate(point[1]):
                place = point[1][:at] + (bool(part),) + point[1][at + 1:]
                changed = {key: basis for key, basis in table.items() if key != point}
                changed[("main", place)] = table[point]
                self.assertIs(is_closed_form_table(program, 2, changed), False)

    def test_it_stays_as_it_is(self):
        one = least_form_table(Q, 2)
        one.clear()
        two = least_form_table(Q, 2)
        two[("main", (0,))] = None
        self.assertIs(is_closed_form_table(Q, 2, least_form_table(Q, 2)), True)

    def test_wrong_arguments(self):
        program = program_of(3, "x", ("input", "x"))
        checks = [program_check, degree_at(1)]
        check_all(self, least_form_table, (program, 2), checks, (P, Q))
        table = least_form_table(program, 2)
        for junk in much_junk() + [tuple(table.items()), list(table)]:
            for args in ((program, 2, junk), (junk, 2, table), (program, junk, table), (junk, junk, table)):
                check_call(self, is_closed_form_table, checks, args)
            self.assertIs(is_closed_form_table(program, 2, junk), False)
        for one, two in itertools.product(few_junk(), repeat=2):
            check_call(self, is_closed_form_table, checks, (one, two, table))


class LongClimbs(unittest.TestCase):
    def test_powers_that_are_found_last(self):
        """What is found first are multiples of high powers of two."""
        ways = [("set", "x", (2 ** k, 0, 0)) for k in reversed(range(16))]
        choice = ("choose", tuple(
            (("choose", tuple((way,) for way in ways[start:start + 4])),) for start in range(0, 16, 4)
        ))
        program = program_of(16, "xy", choice, ("repeat", (("set", "y", (0, 1, 1)), ("set", "x", (0, 2, 0)))))
        for degree in (2, 3):
            table = least_form_table(program, degree)
            self.assertEqual(table, closed_from(program, degree, {}))
            for point in plain.points(program):
                for form in some_forms(program, point, degree, 1, 3):
                    run = breaking_run(program, point, degree, form)
                    right = not any(brute.dot(16, form, vector) for vector in table[point])
                    self.assertIs(run is None, right)
                    self.assertTrue(right or is_breaking_run(program, point, degree, form, run))
