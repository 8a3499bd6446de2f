"""[0.6], [10.2] to [10.4], and [0.1] to [0.5] and [0.9] of the functions on tables."""
import copy
import unittest

from tests import brute, plain
from tests.checks import check_all, is_point, point_at, program_at, row_at, trail_junk
from tests.examples import P, Q, R, S
from tests.making import CHAIN, DOUBLE, ENDLESS, KNOWN, NESTED, SWAPS, WIDE, some_programs
from tests.test_invariants import ROWS, breaks, some_rows
from tests.test_transforms import folded, matrix_size
from tests.test_trails import PIECES, some_trails
from tests.wrong import look, much_junk
from wordlaws.flow.states import entry_basis, state_bases, state_basis
from wordlaws.flow.transforms import transform_bases
from wordlaws.invariants.invariants import is_invariant
from wordlaws.invariants.tables import invariant_paper, is_closed_table, is_invariant_paper, least_table
from wordlaws.modules.bases import basis_of, contains, is_basis
from wordlaws.modules.duals import annihilator
from wordlaws.runs.trails import trail_length

SMALL = tuple(program for width in (1, 2, 3) for program in some_programs(40, width))
LARGE = tuple(program for width in (4, 8, 16) for program in some_programs(12, width, 14))


def is_table(program, value):
    """The form of [10.2], word for word."""
    if type(value) is not tuple or len(value) != 2 or type(value[0]) is not dict or type(value[1]) is not dict:
        return False
    entries, points = value
    width = program[0]
    if not all(type(name) is str for name in entries) or sorted(entries) != plain.names(program):
        return False
    if not all(is_point(program, point) for point in points) or sorted(points) != plain.points(program):
        return False
    if not all(is_basis(width, plain.entry_size(program, name), entries[name]) for name in entries):
        return False
    for point, pair in points.items():
        if type(pair) is not tuple or len(pair) != 2:
            return False
        if not is_basis(width, matrix_size(program, point[0]), pair[0]):
            return False
        if not is_basis(width, plain.state_size(program, point[0]), pair[1]):
            return False
    return True


def demands(program, table):
    """All that a closed table must contain: the basis where it must be, and the vector."""
    entries, points = table
    width, many = program[0], 1 + len(program[1])
    yield ("entry", "main"), (1,) + (0,) * (many - 1)
    matrices = {point: [folded(program, point[0], vector) for vector in points[point][0]] for point in points}
    outcomes = {
        name: [plain.outcome(program, name, matrix) for matrix in matrices[(name, plain.exit_of(program, name))]]
        for name in plain.names(program)
    }
    for name in plain.names(program):
        yield ("matrix", (name, (0,))), plain.flat(plain.first_matrix(program, name))
    for point in plain.points(program):
        for matrix in matrices[point]:
            for place, behind in plain.matrices_behind(program, point, matrix, outcomes):
                yield ("matrix", (point[0], place)), plain.flat(behind)
            for entry in entries[point[0]]:
                yield ("state", point), tuple(brute.dot(width, row, entry) for row in matrix)
        if plain.kind(program, point) == "call":
            _, _, callee, rows = plain.statement(program, point)
            for state in points[point][1]:
                yield ("entry", callee), state[:many] + tuple(brute.dot(width, row, state) for row in rows)


def basis_in(table, place):
    kind, key = place
    return table[0][key] if kind == "entry" else table[1][key][kind == "state"]


def with_basis(table, place, basis):
    """The table with another basis in this place."""
    entries, points = dict(table[0]), dict(table[1])
    kind, key = place
    if kind == "entry":
        entries[key] = basis
    else:
        points[key] = (basis, points[key][1]) if kind == "matrix" else (points[key][0], basis)
    return entries, points


def all_places(table):
    return [("entry", name) for name in table[0]] + [(kind, p) for p in table[1] for kind in ("matrix", "state")]


def size_at(program, place):
    kind, key = place
    if kind == "entry":
        return plain.entry_size(program, key)
    return matrix_size(program, key[0]) if kind == "matrix" else plain.state_size(program, key[0])


def is_closed(program, value):
    if not is_table(program, value):
        return False
    return all(
        contains(program[0], len(vector), basis_in(value, place), vector) for place, vector in demands(program, value)
    )


def closed_from(program, table):
    """The least closed table that contains this one, in rounds."""
    while True:
        missing = {}
        for place, vector in demands(program, table):
            if not contains(program[0], len(vector), basis_in(table, place), vector):
                missing.setdefault(place, []).append(vector)
        if not missing:
            return table
        for place, vectors in missing.items():
            basis = basis_of(program[0], len(vectors[0]), basis_in(table, place) + tuple(vectors))
            table = with_basis(table, place, basis)


def empty_table(program):
    return {name: () for name in plain.names(program)}, {point: ((), ()) for point in plain.points(program)}


def whole_table(program):
    """The table of all vectors."""
    table = empty_table(program)
    for place in all_places(table):
        size = size_at(program, place)
        table = with_basis(table, place, tuple(tuple(int(at == k) for at in range(size)) for k in range(size)))
    return table


class Tables(unittest.TestCase):
    def check(self, program, value):
        right = is_closed(program, value)
        self.assertIs(is_closed_table(program, value), right)
        return right

    def test_least_table(self):
        for program in KNOWN + SMALL + LARGE:
            table = least_table(program)
            entries, points = table
            self.assertEqual((list(entries), list(points)), (plain.names(program), plain.points(program)))
            self.assertEqual(entries, {name: entry_basis(program, name) for name in plain.names(program)})
            transforms, states = transform_bases(program), state_bases(program)
            self.assertEqual(points, {point: (transforms[point], states[point]) for point in plain.points(program)})
            self.assertTrue(self.check(program, table))

    def test_least_table_against_rounds(self):
        for program in KNOWN + SMALL[::2] + LARGE[::2]:
            self.assertEqual(least_table(program), closed_from(program, empty_table(program)))

    def test_larger_closed_tables(self):
        for number, program in enumerate((P, Q, R, S, ENDLESS, SWAPS) + SMALL[::7] + LARGE[::7]):
            least = least_table(program)
            self.assertTrue(self.check(program, whole_table(program)))
            source = brute.seeded(number)
            for _ in range(3):
                place = source.choice(all_places(least))
                size = size_at(program, place)
                vector = brute.some_vector(source, program[0], size)
                basis = basis_of(program[0], size, basis_in(least, place) + (vector,))
                table = with_basis(least, place, basis)
                self.check(program, table)
                table = closed_from(program, table)
                self.assertTrue(self.check(program, table))
                for point, (_, states) in table[1].items():
                    for row in annihilator(program[0], plain.state_size(program, point[0]), states)[:1]:
                        self.assertIs(is_invariant(program, point, row), True)
                        self.assertIs(is_invariant_paper(program, point, row, ("table", table)), True)

    def test_smaller_tables(self):
        """No table without a part of the least one is closed."""
        for program in (P, Q, R, ENDLESS, DOUBLE) + SMALL[::9] + LARGE[::9]:
            least = least_table(program)
            for place in all_places(least):
                basis = basis_in(least, place)
                size = size_at(program, place)
                for index in range(len(basis)):
                    without = basis[:index] + basis[index + 1:]
                    twice = without + (brute.times(program[0], basis[index], 2),)
                    for vectors in (without, twice):
                        smaller = basis_of(program[0], size, vectors)
                        if smaller != basis:
                            self.assertFalse(self.check(program, with_basis(least, place, smaller)))
                self.assertEqual(self.check(program, with_basis(least, place, ())), basis == ())
            self.assertFalse(self.check(program, empty_table(program)))

    def test_bases_that_are_none(self):
        for program in (P, R, Q):
            least = least_table(program)
            for place in all_places(least):
                basis = basis_in(least, place)
                size = size_at(program, place)
                for value in (list(basis), None, True, ((0,) * size,), basis + ((0,) * size,), basis + (basis,), {},
                              basis[::-1] + (1,), tuple(map(list, basis)) + ([],), basis + ((1,) * (size + 1),),
                              tuple(tuple(map(bool, vector)) for vector in basis) + ((True,) * size,)):
                    self.assertFalse(self.check(program, with_basis(least, place, value)))

    def test_keys_in_another_order(self):
        for program in (P, R, S, SWAPS, NESTED):
            entries, points = least_table(program)
            other = ({name: entries[name] for name in list(entries)[::-1]},
                     {point: points[point] for point in sorted(points, key=lambda point: str(point[1]))[::-1]})
            self.assertTrue(self.check(program, other))

    def test_other_keys(self):
        for program in (P, R, S):
            entries, points = least_table(program)
            for name in entries:
                less = {key: entries[key] for key in entries if key != name}
                self.assertFalse(self.check(program, (less, points)))
                for key in (None, True, 1, name + "x", (name,), name.upper(), ""):
                    self.assertFalse(self.check(program, ({**less, key: entries[name]}, points)))
                    self.assertFalse(self.check(program, ({**entries, key: entries[name]}, points)))
            for point in points:
                less = {key: points[key] for key in points if key != point}
                self.assertFalse(self.check(program, (entries, less)))
                name, place = point
                for key in (None, name, place, (name, place + (0,)), (name, place[:-1] + (99,)), (name,), ("", place),
                            (name, place, 0), (name, place[:-1] + (str(place[-1]),)), (place, name), (name, 0)):
                    if key not in points:
                        self.assertFalse(self.check(program, (entries, {**less, key: points[point]})))
                        self.assertFalse(self.check(program, (entries, {**points, key: points[point]})))

    def test_booleans_in_keys(self):
        """They are equal to 0 and 1, but a place does not contain them."""
        for program in (P, R, S):
            entries, points = least_table(program)
            for point in points:
                name, place = point
                for at, number in enumerate(place):
                    if number < 2:
                        key = (name, place[:at] + (bool(number),) + place[at + 1:])
                        less = {other: points[other] for other in points if other != point}
                        self.assertFalse(self.check(program, (entries, {**less, key: points[point]})))

    def test_values_that_are_no_tables(self):
        for program in (P, R):
            entries, points = least_table(program)
            for value in much_junk() + trail_junk() + [
                (entries,), (entries, points, ()), [entries, points], (points, entries), ({}, {}), (entries, {}),
                ({}, points), (list(entries.items()), points), (entries, tuple(points.items())), entries, points,
                (None, points), (entries, None), ("table", (entries, points)),
            ]:
                self.assertFalse(self.check(program, value))
            for point in points:
                one, two = points[point]
                for pair in ((one,), (one, two, ()), [one, two], None, True, one, (), {0: one, 1: two}, (two,)):
                    self.assertFalse(self.check(program, (entries, {**points, point: pair})))

    def test_it_stays_as_it_is(self):
        for program in (P, ENDLESS):
            table = least_table(program)
            before = look(table)
            self.assertIs(is_closed_table(program, table), True)
            self.assertIs(is_closed_table(program, copy.deepcopy(table)), True)
            self.assertEqual(look(table), before)
            table[0].clear()
            self.assertEqual(look(least_table(program)), before)
            self.assertIs(is_closed_table(program, table), False)

    def test_wrong_arguments(self):
        extra = [least_table(P), least_table(R), whole_table(P), empty_table(P)]
        check_all(self, least_table, (P,), [program_at(0)])
        check_all(self, is_closed_table, (P, least_table(P)), [program_at(0)], extra, is_closed)


class Papers(unittest.TestCase):
    def check(self, program, point, row, value):
        """Whether the value is an invariant paper, by the words of [10.4]."""
        right = False
        if type(value) is tuple and len(value) == 2 and value[0] == "trail":
            right = breaks(program, point, row, value[1])
        if type(value) is tuple and len(value) == 2 and value[0] == "table" and is_closed(program, value[1]):
            right = not any(brute.dot(program[0], row, state) for state in value[1][1][point][1])
        self.assertIs(is_invariant_paper(program, point, row, value), right)
        return right

    def test_exactly_one_of_two(self):
        kinds = {"table": 0, "trail": 0}
        for number, program in enumerate(KNOWN + SMALL[::3] + LARGE[::4]):
            table = least_table(program)
            bases = state_bases(program)
            points = plain.points(program)
            for point in points[number % 3::3]:
                for row in annihilator(program[0], plain.state_size(program, point[0]), bases[point])[:2] + tuple(
                        some_rows(program, point[0], number, 2)):
                    right = not any(brute.dot(program[0], row, state) for state in bases[point])
                    kind, paper = invariant_paper(program, point, row)
                    kinds[kind] += 1
                    self.assertEqual(kind, "table" if right else "trail")
                    self.assertIs(is_invariant_paper(program, point, row, (kind, paper)), True)
                    self.assertIs(is_invariant_paper(program, point, row, ("table", table)), right)
                    if right:
                        self.assertTrue(is_closed(program, paper))
                    elif trail_length(program, paper) < 300:
                        self.assertTrue(self.check(program, point, row, (kind, paper)))
        self.assertGreater(min(kinds.values()), 300)

    def test_trails_of_the_tests(self):
        for number, program in enumerate((P, Q, R, SWAPS, ENDLESS) + SMALL[::4]):
            for trail in some_trails(program, number, 3, 25):
                end, _ = plain.trail_end(program, trail)
                for row in some_rows(program, end[0], number, 3):
                    if self.check(program, end, row, ("trail", trail)):
                        self.assertEqual(invariant_paper(program, end, row)[0], "trail")
                    self.check(program, end, row, ("table", trail))
                    self.check(program, end, row, ["trail", trail])

    def test_tables_of_the_tests(self):
        """Closed tables larger than the least one prove fewer rows; tables that are not closed prove none."""
        for number, program in enumerate((P, Q, R, SWAPS) + SMALL[::8]):
            least = least_table(program)
            source = brute.seeded(number)
            for point in plain.points(program)[::2]:
                size = plain.state_size(program, point[0])
                row = (annihilator(program[0], size, least[1][point][1]) + ((0,) * size,))[0]
                self.assertTrue(self.check(program, point, row, ("table", least)))
                vector = brute.some_vector(source, program[0], size)
                larger = basis_of(program[0], size, least[1][point][1] + (vector,))
                table = closed_from(program, with_basis(least, ("state", point), larger))
                self.check(program, point, row, ("table", table))
                self.check(program, point, (0,) * size, ("table", table))
                self.check(program, point, (0,) * size, ("table", with_basis(least, ("state", point), ())))
                self.check(program, point, row, ("trail", least))
                self.check(program, point, row, least)

    def test_a_row_that_only_a_smaller_table_proves(self):
        least = least_table(P)
        self.assertTrue(self.check(P, ("main", (1,)), (0, 8), ("table", least)))
        self.assertFalse(self.check(P, ("main", (1,)), (0, 4), ("table", least)))
        self.assertFalse(self.check(P, ("main", (1,)), (0, 8), ("table", whole_table(P))))
        self.assertTrue(self.check(P, ("main", (1,)), (0, 0), ("table", whole_table(P))))
        smaller = with_basis(least, ("state", ("main", (1,))), ((1, 0),))
        self.assertFalse(self.check(P, ("main", (1,)), (0, 4), ("table", smaller)))

    def test_trails_that_cannot_be_executed(self):
        many = 2000
        pieces = (("f", (0, 0, 0)),) + tuple(("f", (1, k, k, 0)) for k in range(many))
        for number, right in ((0, True), (7, True), (8, False), (many, False)):
            value = ("trail", (pieces, ((number, 0),)))
            self.assertIs(is_invariant_paper(DOUBLE, ("main", (2,)), (0, 1, 0), value), right)
            self.assertIs(is_invariant_paper(DOUBLE, ("main", (2,)), (1, 0, 0), value), True)

    def test_wide_words(self):
        for program in (CHAIN, WIDE):
            for point in plain.points(program):
                size = plain.state_size(program, point[0])
                for row in annihilator(program[0], size, state_basis(program, point)) + ((1,) + (0,) * (size - 1),):
                    paper = invariant_paper(program, point, row)
                    self.assertEqual(paper[0] == "table", is_invariant(program, point, row))
                    self.assertIs(is_invariant_paper(program, point, row, paper), True)

    def test_wrong_arguments(self):
        def right(program, point, row, value):
            return self.check(program, point, row, value)

        checks = [program_at(0), point_at(1), row_at(2)]
        valid = (P, ("main", (1,)), (0, 4))
        check_all(self, invariant_paper, valid, checks, ROWS)
        trail = (PIECES, ((1,),))
        extra = [("trail", value) for value in trail_junk()] + [
            ("table", least_table(P)), ("table", whole_table(P)), ("table", None), ("trail", None), ("trail",),
            ("table",),
            ("Trail", trail), ["trail", trail], ("trail", trail, 0), ("table", trail), (None, trail), ([], trail),
            (("trail",), trail), ("", trail), (1, trail), ("trail", list(trail)),
        ]
        check_all(self, is_invariant_paper, valid + (("trail", trail),), checks, extra, right)


class Examples(unittest.TestCase):
    def test_papers(self):
        self.assertEqual(invariant_paper(P, ("main", (1,)), (0, 8))[0], "table")
        self.assertEqual(invariant_paper(P, ("main", (1,)), (0, 4))[0], "trail")
        self.assertIs(is_invariant_paper(P, ("main", (1,)), (0, 4), ("trail", (PIECES, ((1,),)))), True)
