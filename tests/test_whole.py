"""What the document promises over the whole program: the interface, [0.2], [0.3], [0.6]."""
import copy
import importlib
import inspect
import unittest

from tests import brute, forms, plain
from tests.examples import ALL, P, Q, R
from tests.making import SWAPS, some_programs
from tests.test_edits import some_edits
from tests.test_invariants import some_rows
from tests.wrong import look
from wordlaws.code.changes import exchanged, inlined, renamed, sliced, unrolled
from wordlaws.code.programs import make_program
from wordlaws.errors import InvalidEdit, WordsError
from wordlaws.facts.facts import are_equal, common_invariants, equal_classes, same_bits, unreachable_points
from wordlaws.facts.fewest import fewest_variables, rewritten, separating_mixture, simplified
from wordlaws.facts.powers import form_basis, least_form_table
from wordlaws.flow.states import state_bases
from wordlaws.invariants.contracts import contract_basis, is_contract
from wordlaws.invariants.invariants import breaking_trail, invariant_basis, is_invariant
from wordlaws.invariants.tables import invariant_paper, is_invariant_paper, least_table
from wordlaws.modules.bases import basis_of, contains, joined_basis
from wordlaws.modules.spaces import Module
from wordlaws.runs.machine import Machine, runs_of_length
from wordlaws.shop.edits import Put, Several, Take
from wordlaws.shop.workshop import Workshop
from wordlaws.text.formats import parse_program, program_text
from wordlaws.text.shell import Shell

SMALL = tuple(program for width in (1, 2, 4, 8) for program in some_programs(15, width, 12)) + ALL + (SWAPS,)
FUNCTIONS = {
    "base.words": """is_width(value) is_word(width, value) is_vector(width, size, value)
        vector_sum(width, size, *vectors) vector_multiple(width, vector, factor) dot_product(width, first, second)
        word_level(width, word) word_inverse(width, word)""",
    "modules.bases": """basis_of(width, size, vectors) is_basis(width, size, value)
        remainder_of(width, size, basis, vector) contains(width, size, basis, vector)
        coordinates(width, size, vectors, vector) joined_basis(width, size, *bases) member_count(width, size, basis)""",
    "modules.duals": """annihilator(width, size, basis) common_basis(width, size, *bases)
        solution(width, size, vectors, values)""",
    "code.rows": """is_matrix(width, rows, columns, value) matrix_times(width, matrix, vector)
        matrix_product(width, *matrices)""",
    "code.programs": """is_program(value) make_program(width, *procedures, shared=()) procedure_names(program)
        variables_of(program, name) results_of(program, name) called_by(program, name)""",
    "code.places": """places_of(program, name) points_of(program) statement_at(program, point)
        next_place(program, point, move)""",
    "runs.machine": """is_run(program, value) configuration_after(program, run) state_after(program, run)
        runs_of_length(program, length, *, inputs=(0, 1))""",
    "runs.trails": """is_trail(program, value) trail_state(program, trail) trail_length(program, trail)
        outcome_matrix(program, trail, number) spelled_run(program, trail) trail_of_run(program, run)""",
    "flow.transforms": """transform_basis(program, point) transform_bases(program) outcome_basis(program, name)
        spanning_pieces(program, name) does_return(program, name)""",
    "flow.states": """state_basis(program, point) state_bases(program) entry_basis(program, name)
        spanning_trails(program, point) is_reachable(program, point)""",
    "invariants.invariants": """invariant_basis(program, point) is_invariant(program, point, row)
        breaking_trail(program, point, row) is_breaking_trail(program, point, row, value)""",
    "invariants.tables": """least_table(program) is_closed_table(program, value) invariant_paper(program, point, row)
        is_invariant_paper(program, point, row, value)""",
    "invariants.contracts": """is_way(program, point, value) way_state(program, point, way, entry)
        contract_basis(program, name, *, observed=False) is_contract(program, name, value, *, observed=False)
        breaking_call(program, name, contract) is_breaking_call(program, name, contract, value)
        breaking_exit(program, name, contract) is_breaking_exit(program, name, contract, value)
        precondition_basis(program, point, row) meets_precondition(program, point, row, entry)
        breaking_way(program, point, row, entry) is_breaking_way(program, point, row, entry, value)""",
    "facts.facts": """unreachable_points(program) endless_procedures(program) same_bits(program, point, row)
        differing_trails(program, point, row) are_equal(program, point, *rows) equal_classes(program, point, *rows)
        common_invariants(program, point, *points)""",
    "facts.fewest": """is_determined(program, point, row, numbers) determined_row(program, point, row, numbers)
        separating_mixture(program, point, row, numbers) is_separating_mixture(program, point, row, numbers, value)
        fewest_variables(program, point, row) rewritten(program, *changes) simplified(program)""",
    "code.changes": """renamed(program, *pairs, inside=None) inlined(program, point) unrolled(program, point)
        exchanged(program, point) sliced(program, point, row)""",
    "facts.powers": """monomials_of(count, degree) form_basis(program, point, degree)
        is_form_invariant(program, point, degree, value) breaking_run(program, point, degree, form)
        is_breaking_run(program, point, degree, form, value) least_form_table(program, degree)
        is_closed_form_table(program, degree, value)""",
    "text.formats": """program_text(program) parse_program(text) row_text(program, name, row)
        parse_row(program, name, text) point_text(program, point) parse_point(program, text)
        trail_text(program, trail) parse_trail(program, text)""",
}
METHODS = {
    "modules.spaces.Module": """__init__(self, width, size, *vectors) has(self, vector) plus(self, *others)
        common(self, *others) dual(self) within(self, other) members(self)""",
    "runs.machine.Machine": """__init__(self, program) retrace(self, run) go(self, *moves) back(self, many=1)
        visits(self)""",
    "shop.edits.Edit": "applied(self, program) inverse(self, program)",
    "shop.edits.Put": "__init__(self, point, statement) applied(self, program) inverse(self, program)",
    "shop.edits.Take": "__init__(self, point) applied(self, program) inverse(self, program)",
    "shop.edits.Replace": "__init__(self, point, statement) applied(self, program) inverse(self, program)",
    "shop.edits.Add": "__init__(self, procedure) applied(self, program) inverse(self, program)",
    "shop.edits.Drop": "__init__(self, name) applied(self, program) inverse(self, program)",
    "shop.edits.Several": "__init__(self, *edits) applied(self, program) inverse(self, program)",
    "shop.workshop.Workshop": """__init__(self, program) do(self, *edits) undo(self, *, many=1) load(self, program)
        history(self) watch(self, name, point, row) unwatch(self, name) status(self, name) watches(self)
        invariant_basis(self, point) is_invariant(self, point, row) invariant_paper(self, point, row)
        same_bits(self, point, row) fewest_variables(self, point, row)
        contract_basis(self, name, *, observed=False)""",
    "text.shell.Shell": "__init__(self) run(self, command) run_all(self, *commands) twin(self)",
}
CONSTANTS = {
    "base.words": {"MAX_WIDTH": 16, "MAX_SIZE": 40},
    "code.programs": {"MAX_PROCEDURES": 6, "MAX_VARIABLES": 4, "MAX_RESULTS": 2, "MAX_STATEMENTS": 60, "MAX_NEST": 3,
                      "MAX_BLOCKS": 4},
    "runs.trails": {"MAX_SPELLED": 10000},
}


def shaped(text):
    """The pairs of a name and of its parameters, as they are written."""
    for part in text.replace("\n", " ").replace(")  ", ") ").split(") "):
        if part.strip():
            name, _, parameters = part.strip().partition("(")
            yield name, "(" + (parameters if parameters.endswith("))") or not parameters.endswith(")")
                               else parameters[:-1]).strip() + ")"


class Interface(unittest.TestCase):
    def test_functions(self):
        many = 0
        for module, text in FUNCTIONS.items():
            found = importlib.import_module(f"wordlaws.{module}")
            for name, parameters in shaped(text):
                function = vars(found)[name]
                self.assertTrue(inspect.isfunction(function), name)
                self.assertEqual(function.__module__, found.__name__)
                # The names of a tuple as a default value end in a bracket, too.
                self.assertEqual(str(inspect.signature(function)).rstrip(")"), parameters.rstrip(")"), name)
                many += 1
        self.assertEqual(many, 105)

    def test_methods(self):
        for path, text in METHODS.items():
            module, _, name = path.rpartition(".")
            kind = vars(importlib.import_module(f"wordlaws.{module}"))[name]
            self.assertEqual(kind.__module__, f"wordlaws.{module}")
            for method, parameters in shaped(text):
                self.assertEqual(str(inspect.signature(vars(kind)[method])).rstrip(")"), parameters.rstrip(")"), method)

    def test_constants(self):
        for module, values in CONSTANTS.items():
            for name, value in values.items():
                self.assertEqual(vars(importlib.import_module(f"wordlaws.{module}"))[name], value)
        self.assertEqual((Module.MOST, Machine.LONGEST), (4096, 2000))
        self.assertEqual((Workshop.STATUSES[0], len(Shell.WORDS)), ("broken", 17))

    def test_static_and_class_methods(self):
        self.assertEqual(type(vars(Module)["is_size"]), staticmethod)
        for kind, name in ((Module, "zero"), (Module, "whole"), (Machine, "along"), (Workshop, "twin_of")):
            self.assertEqual(type(vars(kind)[name]), classmethod)
        # They can be asked for by an object, too.
        self.assertIs(Module.zero(4, 1).is_size(40), True)
        self.assertEqual(len(Module.zero(4, 1).whole(4, 2)), 2)
        self.assertEqual(Machine(Q).along(Q, (7,)).moves, (7,))

    def test_by_keyword(self):
        """In any order, with the stated default; not by position."""
        two = make_program(4, *P[2][::-1])
        self.assertEqual(two, P)
        self.assertEqual(make_program(4, *R[2][::-1], shared=("g",)), R)
        self.assertEqual(list(runs_of_length(Q, 1)), list(runs_of_length(Q, 1, inputs=(0, 1))))
        self.assertEqual(contract_basis(P, "f"), contract_basis(P, "f", observed=False))
        self.assertEqual(renamed(P), renamed(P, inside=None))
        for deed in (lambda: runs_of_length(Q, 1, (0, 1)), lambda: contract_basis(P, "f", True),
                     lambda: is_contract(P, "f", (0, 8, 8), True), lambda: Workshop(Q).undo(1),
                     lambda: Workshop(P).contract_basis("f", True)):
            with self.assertRaises(TypeError):
                list(deed())

    def test_any_number_of_arguments(self):
        self.assertEqual((joined_basis(4, 2), are_equal(Q, ("main", (3,)))), ((), True))
        self.assertEqual((equal_classes(Q, ("main", (3,))), rewritten(Q)), ((), Q))
        self.assertEqual((Several().applied(Q), Workshop(Q).do(), Shell().run_all()), (Q, (), ()))
        rows = [(k % 256, 0, 0) for k in range(1000)]
        self.assertEqual(len(equal_classes(Q, ("main", (3,)), *rows)), 256)
        self.assertEqual(common_invariants(Q, *[("main", (3,))] * 500), ((0, 1, 255),))
        self.assertEqual(Several(*[Several()] * 1000).applied(Q), Q)

    def test_generators_that_are_read_in_part(self):
        module, machine = Module(8, 2, (1, 0)), Machine.along(Q, (3, 0))
        shop = Workshop(Q)
        for make in (module.members, machine.visits, shop.history, lambda: runs_of_length(P, 5)):
            one, two = make(), make()
            first = next(one)
            self.assertEqual(next(two), first)
            self.assertEqual([first] + list(one), list(make()))
            self.assertEqual([first] + list(two), list(make()))


class NothingIsChanged(unittest.TestCase):
    def calls(self, program):
        """Calls of functions of all modules, by their names."""
        points, names = plain.points(program), plain.names(program)
        for number, point in enumerate(points[::3]):
            row = some_rows(program, point[0], number, 1)[0]
            yield from ((function, (program, point, row)) for function in (
                invariant_paper, breaking_trail, is_invariant, same_bits, fewest_variables, sliced))
            yield separating_mixture, (program, point, row, ())
            yield from ((function, (program, point)) for function in (invariant_basis, exchanged, inlined, unrolled))
            if program == Q:
                yield form_basis, (program, point, 2)
        yield from ((function, (program,)) for function in (
            least_table, state_bases, unreachable_points, simplified, program_text))
        yield from ((contract_basis, (program, name)) for name in names)

    def result(self, function, args):
        try:
            return function(*args)
        except WordsError as error:
            return type(error)
        except OverflowError as error:
            return error.limit

    def test_what_was_asked_before_changes_no_answer(self):
        """[0.6]: the same calls in another order, and on copies, have equal results."""
        some = [call for program in ALL + SMALL[:10:3] for call in self.calls(program)]
        before = [look(args) for _, args in some]
        first = [self.result(function, args) for function, args in some]
        kept = [look(found) for found in first]
        again = [self.result(function, copy.deepcopy(args)) for function, args in reversed(some)][::-1]
        self.assertEqual([look(found) for found in again], kept)
        self.assertEqual([look(found) for found in first], kept)
        self.assertEqual([look(args) for _, args in some], before)

    def test_results_that_are_changed(self):
        """Dicts that are returned are new ones each time."""
        table, forms_table = least_table(P), least_form_table(Q, 2)
        points = unrolled(Q, ("main", (2,)))[1]
        for found in (table[0], table[1], forms_table, points, state_bases(P)):
            found.clear()
        self.assertEqual(len(least_table(P)[1]), len(plain.points(P)))
        self.assertEqual(len(least_form_table(Q, 2)), len(plain.points(Q)))
        self.assertEqual(len(unrolled(Q, ("main", (2,)))[1]), len(plain.points(Q)))


class MainGuarantee(unittest.TestCase):
    def check(self, program, point, row):
        """A closed table or a trail, and all other answers go with it."""
        paper = invariant_paper(program, point, row)
        self.assertIs(is_invariant_paper(program, point, row, paper), True)
        right = paper[0] == "table"
        self.assertIs(is_invariant(program, point, row), right)
        self.assertIs(breaking_trail(program, point, row) is None, right)
        self.assertIs(contains(program[0], len(row), invariant_basis(program, point), row), right)
        self.assertIs(same_bits(program, point, row) == (program[0], 0), right)
        self.assertIs(are_equal(program, point, row, (0,) * len(row)), right)
        if right:
            self.assertEqual(fewest_variables(program, point, row)[0], ())
        return right

    def test_all_answers_go_together(self):
        rights = [0, 0]
        for number, program in enumerate(SMALL):
            for point in plain.points(program)[number % 3::3]:
                basis = invariant_basis(program, point)
                for row in some_rows(program, point[0], number, 1) + list(basis[:1]):
                    rights[self.check(program, point, row)] += 1
        self.assertGreater(min(rights), 100)

    def test_after_edits_and_undone_edits(self):
        """A workshop, a shell and the functions tell the same as a fresh analysis by a search."""
        for number, program in enumerate(SMALL[::4]):
            source = brute.seeded(number)
            workshop, shell = Workshop(program), Shell()
            for _ in range(3):
                for edit in some_edits(workshop.program, source):
                    try:
                        workshop.do(edit)
                    except InvalidEdit:
                        continue
                    if source.random() < 0.4:
                        workshop.undo(many=source.randint(1, workshop.steps))
                now = workshop.program
                self.assertTrue(forms.is_program(now))
                self.assertEqual(parse_program(program_text(now)), now)
                shell.run("program\n" + program_text(now))
                self.assertEqual(shell.run("text"), program_text(now))
                if plain.state_bits(now) <= 12:
                    reached = plain.reached_by_runs(now)
                    for point in plain.points(now)[::3]:
                        states = tuple(reached.states(point))
                        size = plain.state_size(now, point[0])
                        for row in workshop.invariant_basis(point):
                            self.assertFalse(any(brute.dot(now[0], row, state) for state in states))
                        self.assertEqual(basis_of(now[0], size, states), state_bases(now)[point])

    def test_changed_programs_keep_their_invariants(self):
        """What is rewritten, and then edited and put back, has the same invariants at the same points."""
        for program in SMALL[::5]:
            found = simplified(program)
            self.assertEqual(state_bases(found), state_bases(program))
            edit = Put(("main", (0,)), ("repeat", ()))
            try:
                changed = edit.applied(found)
            except InvalidEdit:
                continue
            self.assertEqual(Take(("main", (0,))).applied(changed), found)
            self.assertEqual(edit.inverse(found).applied(changed), found)
