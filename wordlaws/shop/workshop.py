"""A workshop: a program that is edited, with steps that can be undone, and with watches."""
from wordlaws.base.words import fits_vector
from wordlaws.code.charts import charted, fits_point, need_point, need_row
from wordlaws.code.programs import count_all, fits_name, need_program
from wordlaws.errors import InvalidEdit, InvalidNumber, NothingToUndo, UnknownName
from wordlaws.facts.facts import same_bits
from wordlaws.facts.fewest import fewest_variables
from wordlaws.flow.entrances import entrances_of
from wordlaws.flow.flows import flow_of
from wordlaws.invariants.contracts import contract_basis
from wordlaws.invariants.invariants import breaking_pair, invariant_basis, is_invariant
from wordlaws.invariants.tables import invariant_paper
from wordlaws.shop.edits import Several


class Workshop:
    """A program, the programs before it, and watches."""

    STATUSES = ("broken", "gone", "invariant")

    def __init__(self, program):
        need_program(program)
        # The last one is the present one.
        self._programs = [program]
        self._watched = {}
        self._statuses = {}

    @classmethod
    def twin_of(cls, workshop):
        """Return a separate workshop with the same program, steps and watches."""
        if not isinstance(workshop, Workshop):
            raise InvalidEdit("this is not a workshop")
        twin = cls(workshop.program)
        twin._programs = list(workshop._programs)
        twin._watched = {name: watched for name, watched in workshop._watched.items()}
        twin._statuses = {name: status for name, status in workshop._statuses.items()}
        return twin

    @property
    def program(self):
        """The present program."""
        return self._programs[-1]

    @program.setter
    def program(self, value):
        self.load(value)

    @property
    def steps(self):
        """The number of steps that can be undone."""
        return len(self._programs) - 1

    def load(self, program):
        """Put the program in the place of the present one, as one step, and return the news."""
        need_program(program)
        return self._settle(self._programs + [program])

    def do(self, *edits):
        """Do all edits as one step, or none, and return the news."""
        if not edits:
            return ()
        return self.load(Several(*edits).applied(self.program))

    def undo(self, *, many=1):
        """Take back the last steps, and return the news."""
        if not isinstance(many, int) or isinstance(many, bool) or many < 1:
            raise InvalidNumber(many)
        if many > self.steps:
            raise NothingToUndo(self.steps)
        return self._settle(self._programs[:-many])

    def history(self):
        """Yield the programs from that before the first step that can be undone to the present one."""
        for program in list(self._programs):
            yield program

    def watch(self, name, point, row):
        """Add a watch, and return its status."""
        if not fits_name(name) or name in self._watched:
            raise InvalidEdit("a watch has a name that is not watched yet")
        atlas = charted(self.program)
        need_point(atlas, point)
        need_row(atlas, point[0], row)
        self._watched[name] = (point, row)
        self._statuses[name] = status_in(entrances_of(flow_of(atlas)), point, row)
        return self._statuses[name]

    def unwatch(self, name):
        """Remove the watch."""
        self._need_watch(name)
        del self._watched[name]
        del self._statuses[name]

    def status(self, name):
        """Return the status of the watch."""
        self._need_watch(name)
        return self._statuses[name]

    def watches(self):
        """Return the dict from the names of the watches to the pairs (point, row)."""
        return {name: self._watched[name] for name in sorted(list(self._watched))}

    def invariant_basis(self, point):
        """Return the basis of the invariants of the point."""
        return invariant_basis(self.program, point)

    def is_invariant(self, point, row):
        """Return whether the row is an invariant at the point."""
        return is_invariant(self.program, point, row)

    def invariant_paper(self, point, row):
        """Return an invariant paper for the point and the row."""
        return invariant_paper(self.program, point, row)

    def same_bits(self, point, row):
        """Return how many low bits the values of the row have in common, and these bits."""
        return same_bits(self.program, point, row)

    def fewest_variables(self, point, row):
        """Return the fewest variables that determine the row, and an equal row that uses them."""
        return fewest_variables(self.program, point, row)

    def contract_basis(self, name, *, observed=False):
        """Return the basis of all contracts of the procedure, or of the observed ones."""
        return contract_basis(self.program, name, observed=observed)

    def __contains__(self, name):
        return isinstance(name, str) and name in self._watched

    def __eq__(self, value):
        return (
            isinstance(value, Workshop)
            and self._programs == value._programs
            and self._watched == value._watched
        )

    def __len__(self):
        return len(range(count_all(self.program)))

    def __str__(self):
        return f"workshop of {len(self.program[2])} procedures, {self.steps} steps"

    def _need_watch(self, name):
        """Raise UnknownName if there is no watch with this name."""
        if name not in self:
            raise UnknownName(name)

    def _settle(self, programs):
        """Go on with these programs, and return the news."""
        before = self._statuses
        self._programs = programs
        self._statuses = statuses_in(programs[-1], self._watched)
        return tuple([
            (name, self._statuses[name]) for name in sorted(list(before)) if self._statuses[name] != before[name]
        ])


def statuses_in(program, watched):
    """Return the dict from the names of the watches to their statuses in the program."""
    if not watched:
        return {}
    entrances = entrances_of(flow_of(charted(program)))
    return {name: status_in(entrances, point, row) for name, (point, row) in watched.items()}


def status_in(entrances, point, row):
    """Return the status of a watch."""
    atlas = entrances.flow.atlas
    if not fits_point(atlas, point) or not fits_vector(atlas.word_width, atlas.charts[point[0]].state_size, row):
        return "gone"
    if breaking_pair(entrances, point, row) is None:
        return "invariant"
    return "broken"
