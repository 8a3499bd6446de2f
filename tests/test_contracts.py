"""[11.1] to [11.4], and [0.1] to [0.5], [0.9] and the errors of stage 11 for contracts and preconditions."""
import unittest

from tests import brute, plain
from tests.checks import changed_parts, check_all, is_entry, point_junk, trail_junk
from tests.checks import name_at, point_at, program_at, row_at
from tests.examples import P, Q, R, S
from tests.making import CHAIN, DOUBLE, ENDLESS, KNOWN, SWAPS, WIDE, some_programs
from tests.test_invariants import ROWS, some_rows
from tests.test_transforms import Least
from tests.test_trails import PIECES, some_trails
from tests.wrong import check_call, few_junk, much_junk
from wordlaws.errors import InvalidTrail, InvalidVector
from wordlaws.flow.states import entry_basis
from wordlaws.flow.transforms import does_return, outcome_basis, spanning_pieces, transform_basis
from wordlaws.invariants.contracts import (
    breaking_call, breaking_exit, breaking_way, contract_basis, is_breaking_call, is_breaking_exit, is_breaking_way,
    is_contract, is_way, meets_precondition, precondition_basis, way_state,
)
from wordlaws.modules.bases import basis_of
from wordlaws.modules.duals import annihilator
from wordlaws.runs.trails import is_trail, trail_length, trail_state

MIXED = tuple(program for width in (1, 2, 3) for program in some_programs(60, width))
SMALL = tuple(program for program in MIXED if plain.state_bits(program) <= 6)
LARGE = tuple(program for width in (4, 8, 16) for program in some_programs(12, width, 14))
CALL = ((1, 5), (PIECES, (1, 0, 0, 0)))
WAY_JUNK = trail_junk() + [(PIECES, (1, 0, 0, 0)), (PIECES, (0, 0)), (PIECES, [0, 0]), ((), (0, 0)), ((), (0, 1))]
ENTRY_JUNK = [
    (1, 5), (0, 5), (1, 16), (1, True), (True, 5), [1, 5], (1,), (1, 5, 0), (1, -1), (1, None), (2, 5), (1, 15),
]


def contract_size(program, name):
    return plain.entry_size(program, name) + len(plain.outcome_columns(program, name)) - 1


def exit_point(program, name):
    return name, plain.exit_of(program, name)


def call_vector(program, name, entry, state):
    return entry + tuple(state[at] for at in plain.outcome_columns(program, name)[1:])


def right_call(program, name, contract, value):
    """Whether the value is a finished call that breaks the contract, by plain steps."""
    if type(value) is not tuple or len(value) != 2 or not is_entry(program, name, value[0]):
        return False
    if not plain.is_way(program, exit_point(program, name), value[1]):
        return False
    _, state = plain.way_end(program, name, value[1], value[0])
    return brute.dot(program[0], contract, call_vector(program, name, value[0], state)) != 0


def last_entry(program, trail):
    """The entry of the last frame, by plain steps: the state of the trail without the moves of that frame."""
    pieces, frames = trail
    point, state = plain.trail_end(program, (pieces, frames[:-1] + ((),)))
    return state[:plain.entry_size(program, point[0])]


def right_exit(program, name, contract, value):
    if not plain.is_trail(program, value):
        return False
    point, state = plain.trail_end(program, value)
    if point != exit_point(program, name):
        return False
    return brute.dot(program[0], contract, call_vector(program, name, last_entry(program, value), state)) != 0


def right_way(program, point, row, entry, value):
    if not plain.is_way(program, point, value):
        return False
    reached, state = plain.way_end(program, point[0], value, entry)
    return reached == point and brute.dot(program[0], row, state) != 0


def some_ways(program, number, many=4):
    """Ways to some points: the last frames of trails of the tests' own, and pieces."""
    for trail in some_trails(program, number, many, 30):
        point, _ = plain.trail_end(program, trail)
        yield point, (trail[0], trail[1][-1])
        for at, (name, moves) in list(enumerate(trail[0]))[:3]:
            yield exit_point(program, name), (trail[0][:at], moves)


def some_entries(program, name, number, many=4):
    source = brute.seeded(number)
    size = plain.entry_size(program, name) - 1
    return [(1,) + tuple(source.randrange(2 ** program[0]) for _ in range(size)) for _ in range(many)]


def some_contracts(program, name, number, many):
    return list(brute.some_vectors(brute.seeded(number), program[0], contract_size(program, name), many))


def way_at(place):
    return lambda args: None if plain.is_way(args[0], args[1], args[place]) else (InvalidTrail,)


def entry_at(place):
    return lambda args: None if is_entry(args[0], args[1][0], args[place]) else (InvalidVector,)


def contract_at(place):
    def check(args):
        size = contract_size(args[0], args[1])
        return None if brute.is_vector(args[0][0], size, args[place]) else (InvalidVector,)
    return check


class Ways(unittest.TestCase):
    def test_against_plain_steps(self):
        for number, program in enumerate(KNOWN + MIXED[::3] + LARGE):
            for point, way in some_ways(program, number):
                self.assertTrue(plain.is_way(program, point, way))
                for other in [point] + plain.points(program)[::5]:
                    self.assertIs(is_way(program, other, way), plain.is_way(program, other, way))
                for entry in some_entries(program, point[0], number):
                    expected = plain.way_end(program, point[0], way, entry)
                    self.assertEqual((point, way_state(program, point, way, entry)), expected)

    def test_changed_ways(self):
        rights = 0
        for number, program in enumerate((P, R, DOUBLE, SWAPS) + MIXED[::20]):
            for point, way in some_ways(program, number, 2):
                for value in changed_parts(way, (0, 1, None, ()) + way[0][:1]):
                    right = plain.is_way(program, point, value)
                    rights += right
                    self.assertIs(is_way(program, point, value), right)
                    if not right:
                        with self.assertRaises(InvalidTrail):
                            way_state(program, point, value, some_entries(program, point[0], 1)[0])
        self.assertGreater(rights, 50)

    def test_a_procedure_that_is_never_called(self):
        self.assertIs(is_way(ENDLESS, ("idle", (2,)), ((), (0, 0, 0))), True)
        self.assertEqual(way_state(ENDLESS, ("idle", (2,)), ((), (0, 1, 0, 0)), (1, 2, 3)), (1, 2, 0, 4))

    def test_thousands_of_pieces(self):
        many = 4000
        pieces = (("f", (0, 0)),) + tuple(("f", (1, 0, k, 0)) for k in range(many))
        way = (pieces, (1, 0, many, 0))
        self.assertIs(is_way(P, ("f", (1,)), way), True)
        self.assertEqual(way_state(P, ("f", (1,)), way, (1, 3)), (1, (3 + 6 * many + 6) % 16))
        self.assertIs(is_breaking_way(P, ("f", (1,)), (0, 2), (1, 3), way), True)
        self.assertIs(is_breaking_way(P, ("f", (1,)), (0, 8), (1, 2), way), False)
        self.assertIs(is_breaking_call(P, "f", (0, 1, 15), ((1, 3), way)), 6 * (many + 1) % 16 != 0)
        frames = ((),) + ((1, 0),) * many + ((1, 0, many, 0),)
        # Every frame adds 6 before it calls the next one, and the last one adds 6 more than its pieces do.
        added = 6 * (many + 1) % 16
        self.assertIs(is_breaking_exit(P, "f", (15 * added % 16, 15, 1), (pieces, frames)), False)
        self.assertIs(is_breaking_exit(P, "f", (1, 15, 1), (pieces, frames)), (added + 1) % 16 != 0)

    def test_wrong_arguments(self):
        def right(program, point, value):
            return plain.is_way(program, point, value)

        start = [program_at(0), point_at(1)]
        check_all(self, is_way, (P, ("f", (1,)), CALL[1]), start, WAY_JUNK + point_junk(), right)
        checks = start + [way_at(2), entry_at(3)]
        check_all(self, way_state, (P, ("f", (1,)), CALL[1], CALL[0]), checks, WAY_JUNK + ENTRY_JUNK)


class Contracts(unittest.TestCase):
    def check_contract(self, program, name, contract, right):
        self.assertIs(is_contract(program, name, contract), right)
        self.assertIs(is_contract(program, name, contract, observed=False), right)
        call = breaking_call(program, name, contract)
        self.assertEqual(call is None, right)
        if call is not None:
            self.assertTrue(right_call(program, name, contract, call))
            self.assertIs(is_breaking_call(program, name, contract, call), True)

    def check_observed(self, program, name, contract, right):
        self.assertIs(is_contract(program, name, contract, observed=True), right)
        trail = breaking_exit(program, name, contract)
        self.assertEqual(trail is None, right)
        if trail is not None:
            self.assertIs(is_trail(program, trail), True)
            self.assertEqual(trail_state(program, trail)[0], exit_point(program, name))
            self.assertIs(is_breaking_exit(program, name, contract, trail), True)
            if trail_length(program, trail) < 300:
                self.assertTrue(right_exit(program, name, contract, trail))

    def check_name(self, program, name, number, calls, observed):
        """Against the vectors of all finished calls, and of those that runs make."""
        size = contract_size(program, name)
        for vectors, named, check in ((calls, {}, self.check_contract), (observed, {"observed": True}, self.check_observed)):
            basis = contract_basis(program, name, **named)
            self.assertEqual(basis, annihilator(program[0], size, basis_of(program[0], size, tuple(vectors))))
            for contract in list(basis[:2]) + some_contracts(program, name, number, 3):
                check(program, name, contract, not any(brute.dot(program[0], contract, v) for v in vectors))
        self.assertEqual(contract_basis(program, name, observed=False), contract_basis(program, name))

    def test_against_all_finished_calls(self):
        for number, program in enumerate(SMALL[::2] + (R,)):
            anywhere, by_runs = plain.reached_from_anywhere(program), plain.reached_by_runs(program)
            for name in plain.names(program):
                self.check_name(program, name, number, anywhere.calls(name), by_runs.calls(name))

    def test_all_contracts(self):
        """For few bits: the contracts are exactly the vectors of the module."""
        done = 0
        for program in SMALL[::2]:
            for name in plain.names(program):
                size = contract_size(program, name)
                if program[0] * size <= 5:
                    done += 1
                    calls = plain.reached_from_anywhere(program).calls(name)
                    observed = plain.reached_by_runs(program).calls(name)
                    for vector in brute.all_vectors(program[0], size):
                        right = not any(brute.dot(program[0], vector, call) for call in calls)
                        self.check_contract(program, name, vector, right)
                        right = not any(brute.dot(program[0], vector, call) for call in observed)
                        self.check_observed(program, name, vector, right)
        self.assertGreater(done, 25)

    def test_large(self):
        """Against [11.3], with the modules of the tests' own."""
        for number, program in enumerate(KNOWN + LARGE):
            least = Least(program)
            for name in plain.names(program):
                size = plain.entry_size(program, name)
                units = [tuple(int(at == place) for at in range(size)) for place in range(size)]
                modules = []
                for entries in (units, entry_basis(program, name)):
                    vectors = []
                    for matrix in least.outcomes(name):
                        for entry in entries:
                            left = tuple(brute.dot(program[0], row, entry) for row in matrix)
                            vectors.append(brute.times(program[0], entry, matrix[0][0]) + left[1:])
                    modules.append(vectors)
                self.check_name(program, name, number, *modules)

    def test_procedures_that_never_return(self):
        for program, name in ((R, "stop"), (R, "main"), (ENDLESS, "lost"), (ENDLESS, "never")):
            size = contract_size(program, name)
            units = tuple(tuple(int(at == place) for at in range(size)) for place in range(size))
            for observed in (False, True):
                self.assertEqual(contract_basis(program, name, observed=observed), units)
            for contract in units + tuple(some_contracts(program, name, 1, 3)):
                self.check_contract(program, name, contract, True)
                self.check_observed(program, name, contract, True)

    def test_procedures_that_are_never_called(self):
        units = tuple(tuple(int(at == place) for at in range(6)) for place in range(6))
        self.assertEqual(contract_basis(ENDLESS, "idle", observed=True), units)
        self.assertNotEqual(contract_basis(ENDLESS, "idle"), units)
        for contract in units + tuple(some_contracts(ENDLESS, "idle", 1, 5)):
            self.check_observed(ENDLESS, "idle", contract, True)
        self.check_contract(ENDLESS, "idle", (1, 0, 0, 0, 0, 0), False)

    def test_main(self):
        """The run of main is a call with globals 0."""
        program = (2, ("g",), (("main", (), (), (), (("set", "g", (1, 3)),)),))
        self.assertEqual(contract_basis(program, "main"), ((1, 3, 3),))
        self.assertEqual(contract_basis(program, "main", observed=True), ((1, 0, 3), (0, 1, 0)))
        trail = breaking_exit(program, "main", (0, 0, 1))
        self.assertEqual(trail, ((), ((0,),)))
        self.assertEqual(contract_basis(Q, "main"), ())
        self.assertEqual(contract_basis((1, (), (("main", (), (), (), ()),)), "main"), ())

    def test_observed_is_true(self):
        for value in (False, None, 0, 1, (), "True"):
            self.assertEqual(contract_basis(P, "f", observed=value), contract_basis(P, "f"))
            self.assertIs(is_contract(P, "f", (0, 8, 0), observed=value), False)
        self.assertIs(is_contract(P, "f", (0, 8, 0), observed=True), True)

    def test_chains(self):
        for program in (CHAIN, DOUBLE):
            for name in plain.names(program):
                size = contract_size(program, name)
                for contract in contract_basis(program, name):
                    self.check_contract(program, name, contract, True)
                for place in range(size):
                    contract = tuple(int(at == place) for at in range(size))
                    self.check_contract(program, name, contract, False)
                    self.check_observed(program, name, contract,
                                        is_contract(program, name, contract, observed=True))

    def test_calls_of_the_tests(self):
        rights = 0
        for number, program in enumerate((P, SWAPS, DOUBLE, S) + MIXED[::6]):
            for point, way in some_ways(program, number):
                name = point[0]
                for entry in some_entries(program, name, number, 2):
                    for contract in some_contracts(program, name, number, 3):
                        right = right_call(program, name, contract, (entry, way))
                        rights += right
                        self.assertIs(is_breaking_call(program, name, contract, (entry, way)), right)
        self.assertGreater(rights, 100)

    def test_exits_of_the_tests(self):
        rights = 0
        for number, program in enumerate((P, SWAPS, DOUBLE, S) + MIXED[::4]):
            for trail in some_trails(program, number, 6, 30):
                point, _ = plain.trail_end(program, trail)
                for name in plain.names(program):
                    for contract in some_contracts(program, name, number, 3):
                        right = right_exit(program, name, contract, trail)
                        rights += right
                        self.assertIs(is_breaking_exit(program, name, contract, trail), right)
                        if right:
                            self.assertEqual(point, exit_point(program, name))
                            self.assertIs(is_contract(program, name, contract, observed=True), False)
        self.assertGreater(rights, 50)

    def test_changed_calls_and_exits(self):
        for contract in ((0, 1, 15), (0, 8, 8), (1, 0, 0), (0, 2, 0)):
            for value in changed_parts(CALL, (0, 1, None, (), ("f", (0, 0)))):
                self.assertIs(is_breaking_call(P, "f", contract, value), right_call(P, "f", contract, value))
            for trail in ((PIECES, ((), (1, 0), (1, 0, 1, 0))), ((), ((), (0, 0)))):
                for value in changed_parts(trail, (0, 1, None, (), ("f", (0, 0)))):
                    self.assertIs(is_breaking_exit(P, "f", contract, value), right_exit(P, "f", contract, value))

    def test_wrong_arguments(self):
        def based(program, name, observed):
            return contract_basis(program, name, observed=observed)

        def right_contract(program, name, value):
            size = contract_size(program, name)
            basis = contract_basis(program, name)
            span = brute.span(program[0], size, basis)
            return brute.is_vector(program[0], size, value) and value in span

        def observed_contract(program, name, value):
            return is_contract(program, name, value, observed=True)

        def right_observed(program, name, value):
            span = brute.span(program[0], contract_size(program, name), contract_basis(program, name, observed=True))
            return brute.is_vector(program[0], contract_size(program, name), value) and value in span

        start = [program_at(0), name_at(1)]
        checks = start + [contract_at(2)]
        extra = [(0, 8, 8), (0, 8, 0), [0, 8, 8], (0, 8, 8, 0), (0, 8), (0, 8, 16), (0, 8, True), (0, 8, None), "f", "main"]
        check_all(self, based, (P, "f", True), start)
        check_all(self, is_contract, (P, "f", (0, 8, 8)), start, extra, right_contract)
        check_all(self, observed_contract, (P, "f", (0, 8, 0)), start, extra, right_observed)
        for function in (breaking_call, breaking_exit):
            check_all(self, function, (P, "f", (0, 4, 8)), checks, extra)
        calls = [CALL, list(CALL), CALL + (0,), (list(CALL[0]), CALL[1]), ((1, 5), list(CALL[1])), ((1, 5), ((), (0,))),
                 ((1, 5), (PIECES, (0, 0))), ((0, 5), CALL[1]), ((1, 16), CALL[1]), ((1, 5, 0), CALL[1])]
        check_all(self, is_breaking_call, (P, "f", (0, 1, 15), CALL), checks, extra + calls, right_call)
        trail = (PIECES, ((), (1, 0, 0, 0)))
        check_all(self, is_breaking_exit, (P, "f", (0, 1, 15), trail), checks, extra + trail_junk(), right_exit)


class Preconditions(unittest.TestCase):
    def check(self, program, point, row, entry, right):
        self.assertIs(meets_precondition(program, point, row, entry), right)
        way = breaking_way(program, point, row, entry)
        self.assertEqual(way is None, right)
        if way is not None:
            self.assertIs(is_way(program, point, way), True)
            self.assertIs(is_breaking_way(program, point, row, entry, way), True)
            self.assertTrue(right_way(program, point, row, entry, way))

    def test_against_all_ways(self):
        """From every entry: the row is 0 on all states that a search finds exactly if the precondition holds."""
        for number, program in enumerate(SMALL[::5] + (R,)):
            reached = plain.reached_from_anywhere(program)
            for point in plain.points(program):
                states = {}
                for entry, state in reached.pairs[point]:
                    states.setdefault(entry, []).append(state)
                for row in some_rows(program, point[0], number, 2):
                    for entry in plain.all_entries(program, point[0])[number % 3::3]:
                        right = not any(brute.dot(program[0], row, state) for state in states.get(entry, ()))
                        self.check(program, point, row, entry, right)

    def test_bases(self):
        """The products of the row with all matrices, or with those of a basis, span the precondition."""
        for number, program in enumerate(MIXED[::4] + (P, R, SWAPS)):
            matrices = plain.all_matrices(program, 1500)
            for point, found in (matrices or {}).items():
                for row in some_rows(program, point[0], number, 2):
                    vectors = tuple(plain.times(program[0], (row,), matrix)[0] for matrix in found)
                    expected = basis_of(program[0], plain.entry_size(program, point[0]), vectors)
                    self.assertEqual(precondition_basis(program, point, row), expected)
        for number, program in enumerate(KNOWN + LARGE):
            least = Least(program)
            for point in plain.points(program)[::3]:
                row = some_rows(program, point[0], number, 1)[0]
                vectors = tuple(plain.times(program[0], (row,), matrix)[0] for matrix in least.matrices(point))
                expected = basis_of(program[0], plain.entry_size(program, point[0]), vectors)
                self.assertEqual(precondition_basis(program, point, row), expected)
                for entry in some_entries(program, point[0], number):
                    right = not any(brute.dot(program[0], vector, entry) for vector in expected)
                    self.check(program, point, row, entry, right)

    def test_places_that_are_not_reached(self):
        for program, point in ((R, ("main", (2,))), (ENDLESS, ("lost", (2,))), (ENDLESS, ("main", (1, 1, 2)))):
            size = plain.state_size(program, point[0])
            self.assertEqual(transform_basis(program, point), ())
            for row in some_rows(program, point[0], 1, 3) + [(1,) + (0,) * (size - 1)]:
                self.assertEqual(precondition_basis(program, point, row), ())
                for entry in some_entries(program, point[0], 2):
                    self.check(program, point, row, entry, True)

    def test_ways_of_the_tests(self):
        rights = 0
        for number, program in enumerate(KNOWN + MIXED[::5]):
            for point, way in some_ways(program, number):
                for entry in some_entries(program, point[0], number, 2):
                    for row in some_rows(program, point[0], number, 3):
                        for place in [point] + plain.points(program)[::6]:
                            if place[0] == point[0]:
                                right = right_way(program, place, row, entry, way)
                                rights += right
                                self.assertIs(is_breaking_way(program, place, row, entry, way), right)
                                if right:
                                    self.assertIs(meets_precondition(program, place, row, entry), False)
        self.assertGreater(rights, 200)

    def test_pieces_of_others(self):
        """Ways that the package finds are ways to those who ask for them in other words."""
        for program in (P, SWAPS, DOUBLE, CHAIN):
            for name in plain.names(program):
                pieces, numbers = spanning_pieces(program, name)
                for number in numbers:
                    self.assertIs(is_way(program, exit_point(program, name), (pieces, pieces[number][1])), True)
                self.assertEqual(does_return(program, name), outcome_basis(program, name) != ())

    def test_wide_words(self):
        for point in plain.points(WIDE)[::3]:
            for row in some_rows(WIDE, point[0], 1, 2):
                for entry in some_entries(WIDE, point[0], 3):
                    basis = precondition_basis(WIDE, point, row)
                    right = not any(brute.dot(16, vector, entry) for vector in basis)
                    self.check(WIDE, point, row, entry, right)

    def test_wrong_arguments(self):
        start = [program_at(0), point_at(1), row_at(2)]
        valid = (P, ("f", (1,)), (0, 1), (1, 5))
        checks = start + [entry_at(3)]
        check_all(self, precondition_basis, valid[:3], start, ROWS)
        for function in (meets_precondition, breaking_way):
            check_all(self, function, valid, checks, ENTRY_JUNK)
        check_all(self, is_breaking_way, valid + (CALL[1],), checks, WAY_JUNK + ENTRY_JUNK, right_way)
        for junk in much_junk() + few_junk():
            check_call(self, is_breaking_way, checks, valid + (junk,), right=right_way)


class Examples(unittest.TestCase):
    def test_contracts(self):
        self.assertEqual(contract_basis(P, "f"), ((0, 8, 8),))
        self.assertEqual(contract_basis(P, "f", observed=True), ((0, 8, 0), (0, 0, 8)))
        self.assertEqual(contract_basis(R, "stop"), ((1, 0, 0), (0, 1, 0), (0, 0, 1)))

    def test_calls(self):
        self.assertEqual(way_state(P, ("f", (1,)), CALL[1], CALL[0]), (1, 11))
        self.assertIs(is_breaking_call(P, "f", (0, 1, 15), CALL), True)
        self.assertIsNone(breaking_call(P, "f", (0, 8, 8)))
        self.assertIsNone(breaking_exit(P, "f", (0, 8, 0)))

    def test_preconditions(self):
        self.assertEqual(precondition_basis(P, ("f", (1,)), (0, 8)), ((0, 8),))
        self.assertEqual(precondition_basis(P, ("f", (1,)), (0, 4)), ((8, 0), (0, 4)))
        self.assertIs(meets_precondition(P, ("f", (1,)), (0, 8), (1, 2)), True)
