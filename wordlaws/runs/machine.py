"""Runs, step by step."""
from wordlaws.base.words import fits_bounds, fits_word
from wordlaws.code.charts import charted
from wordlaws.errors import InvalidNumber, InvalidRun, InvalidVector, TooMany
from wordlaws.runs.courses import Course, course_along, fits_step, rewind, step
from wordlaws.runs.courses import is_at_end, node_now, point_now, state_now
from wordlaws.runs.outlook import Outlook, most_steps

MAX_LISTED = 30
MAX_INPUTS = 8


class Machine:
    """A run that goes on step by step."""

    LONGEST = 2000

    def __init__(self, program):
        self._course = Course(charted(program))
        self._program = program

    @classmethod
    def along(cls, program, run):
        """Return a machine with this run."""
        machine = cls(program)
        machine.retrace(run)
        return machine

    @property
    def position(self):
        """The point to which the run leads."""
        return point_now(self._course)

    @property
    def state(self):
        """The state to which the run leads."""
        return state_now(self._course)

    @property
    def depth(self):
        """The number of frames."""
        return len(self._course.frames)

    @property
    def has_ended(self):
        """Whether the run leads to the exit of main."""
        return is_at_end(self._course)

    @property
    def moves(self):
        """The run so far."""
        return tuple(self._course.passed)

    @moves.setter
    def moves(self, value):
        self.retrace(value)

    def retrace(self, run):
        """Put the run in the place of the present one, and return the state."""
        course = along_run(self._course.atlas, run)
        if len(run) > self.LONGEST:
            raise TooMany(self.LONGEST)
        self._course = course
        return self.state

    def go(self, *moves):
        """Do these steps, all or none, and return the state."""
        for done, move in enumerate(moves):
            if not fits_step(self._course, move):
                rewind(self._course, done)
                raise InvalidNumber(move)
            step(self._course, move)
        if len(self) > self.LONGEST:
            rewind(self._course, len(moves))
            raise TooMany(self.LONGEST)
        return self.state

    def back(self, many=1):
        """Take back the last moves, and return the state."""
        if not fits_bounds(many, 0, len(self)):
            raise InvalidNumber(many)
        rewind(self._course, many)
        return self.state

    def visits(self):
        """Yield the pairs (point, state) from the first configuration to the present one."""
        course = Course(self._course.atlas)
        run = self.moves
        yield point_now(course), state_now(course)
        for move in run:
            step(course, move)
            yield point_now(course), state_now(course)

    def __len__(self):
        return len(self._course.passed)

    def __eq__(self, value):
        return isinstance(value, Machine) and self._program == value._program and self.moves == value.moves


def is_run(program, value):
    """Return whether the value is a run."""
    return course_along(charted(program), value) is not None


def configuration_after(program, run):
    """Return the configuration after the run: the globals and the frames."""
    course = along_run(charted(program), run)
    return course.shared, tuple(course.frames)


def state_after(program, run):
    """Return the pair of the point and the state after the run."""
    course = along_run(charted(program), run)
    return point_now(course), state_now(course)


def runs_of_length(program, length, *, inputs=(0, 1)):
    """Yield all runs with this number of moves that take their inputs from the given words, ascending."""
    atlas = charted(program)
    if not fits_bounds(length, 0, MAX_LISTED):
        raise InvalidNumber(length)
    need_inputs(atlas.word_width, inputs)
    outlook = Outlook(atlas, length)
    course = Course(atlas)
    untried = [moves_ahead(course, outlook, inputs)]
    while untried:
        if len(course.passed) == length:
            yield tuple(course.passed)
        if untried[-1]:
            step(course, untried[-1].pop())
            untried.append(moves_ahead(course, outlook, inputs))
            continue
        untried.pop()
        if untried:
            rewind(course, 1)


def moves_ahead(course, outlook, inputs):
    """Return the list of the next moves of runs of the length that is the outlook's limit, descending."""
    left = outlook.limit - len(course.passed)
    if left == 0 or most_steps(outlook, course.frames) < left:
        return []
    node = node_now(course)
    if node.kind == "input":
        return list(inputs[::-1])
    return list(range(max(1, len(node.exits))))[::-1]


def along_run(atlas, run):
    """Return the course after the run; raise InvalidRun if the value is not a run."""
    course = course_along(atlas, run)
    if course is None:
        raise InvalidRun("not a run of the program")
    return course


def need_inputs(width, value):
    """Raise InvalidVector if the value is not an ascending tuple of one to eight words."""
    if not isinstance(value, tuple) or not fits_bounds(len(value), 1, MAX_INPUTS):
        raise InvalidVector("inputs are a tuple of one to eight words")
    if not all([fits_word(width, word) for word in value]):
        raise InvalidVector("inputs are words")
    if not all([before < behind for before, behind in zip(value, value[1:])]):
        raise InvalidVector("inputs ascend")
