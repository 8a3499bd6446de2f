"""Configurations that go on step by step, and that can be put back."""
from wordlaws.base.words import dot, fits_bounds
from wordlaws.code.charts import fits_move, led_to
from wordlaws.code.rows import times_vector


class Course:
    """The configuration after some moves, at first after none.

    It is changed by `step` and `rewind` alone. The last one of the frames, which are triples (name, place, words),
    is the current one. For each of the moves there is one of the traces, which tells how to take the move back.
    """

    def __init__(self, atlas):
        many = atlas.many_shared
        self.atlas = atlas
        self.shared = (0,) * many
        self.frames = [("main", (0,), (0,) * (atlas.charts["main"].state_size - 1 - many))]
        self.passed = []
        self.traces = []


def course_along(atlas, run):
    """Return the course after the moves, or None if the value is not a run."""
    if not isinstance(run, tuple):
        return None
    course = Course(atlas)
    for move in run:
        if not fits_step(course, move):
            return None
        step(course, move)
    return course


def node_now(course):
    """Return the node at which the current frame is."""
    name, place, _ = course.frames[-1]
    return course.atlas.charts[name].nodes[place]


def point_now(course):
    """Return the point of the configuration."""
    return course.frames[-1][:2]


def state_now(course):
    """Return the state of the configuration."""
    return (1,) + course.shared + course.frames[-1][2]


def is_at_end(course):
    """Return whether the course is at the exit of main."""
    return len(course.frames) == 1 and node_now(course).kind == "exit"


def fits_step(course, move):
    """Return whether there is a step with this move."""
    node = node_now(course)
    if node.kind == "exit":
        return len(course.frames) > 1 and fits_bounds(move, 0, 0)
    return fits_move(course.atlas.word_width, node, move)


def step(course, move):
    """Do the step, which must be possible."""
    course.passed.append(move)
    course.traces.append((course.shared, len(course.frames), course.frames[-2:]))
    node = node_now(course)
    if node.kind == "call":
        enter(course, node)
    elif node.kind == "exit":
        leave(course)
    else:
        state = list(state_now(course))
        if node.kind == "set":
            state[node.column] = dot(course.atlas.word_width, node.row, state)
        elif node.kind == "input":
            state[node.column] = move
        go_on(course, led_to(node, move), state)


def rewind(course, many):
    """Take this many of the last moves back."""
    for _ in range(many):
        course.passed.pop()
        shared, depth, top = course.traces.pop()
        course.shared = shared
        del course.frames[depth - len(top):]
        course.frames.extend(top)


def go_on(course, place, state):
    """Put the current frame to the place and into the state, which is a list."""
    many = course.atlas.many_shared
    course.shared = tuple(state[1:1 + many])
    course.frames[-1] = (course.frames[-1][0], place, tuple(state[1 + many:]))


def enter(course, node):
    """Add the frame of the callee, at its entry."""
    chart = course.atlas.charts[node.callee]
    words = times_vector(course.atlas.word_width, node.arguments, state_now(course))
    zeros = (0,) * (chart.state_size - chart.entry_size)
    course.frames.append((chart.name, (0,), words + zeros))


def leave(course):
    """Remove the frame of the callee; the caller goes on behind the call with what the callee leaves."""
    chart = course.atlas.charts[course.frames[-1][0]]
    last = state_now(course)
    course.frames.pop()
    node = node_now(course)
    state = list(state_now(course))
    for target, column in zip(node.targets, chart.outcome_columns[1 + course.atlas.many_shared:]):
        state[target] = last[column]
    go_on(course, node.exits[0], state)
