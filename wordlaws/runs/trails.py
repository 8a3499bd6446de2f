"""Trails: runs that are written in pieces, and that are judged without doing all their steps."""
from wordlaws.base.words import fits_bounds
from wordlaws.code.charts import charted, node_at
from wordlaws.code.effects import column_of, entry_of, flat, with_locals
from wordlaws.errors import InvalidNumber, InvalidTrail, TooMany
from wordlaws.modules.echelon import unit
from wordlaws.runs.courses import Course, node_now, step
from wordlaws.runs.machine import along_run
from wordlaws.runs.pieces import fits_pieces, followed, length_of, lengths_of, outcomes_of, place_reached, spelled

MAX_SPELLED = 10000


def is_trail(program, value):
    """Return whether the value is a trail."""
    return fits_trail(charted(program), value)


def trail_state(program, trail):
    """Return the pair of the point and the state of the trail."""
    atlas = charted(program)
    need_trail(atlas, trail)
    point, _, state = traced(atlas, trail)
    return point, state


def trail_length(program, trail):
    """Return the number of moves of the run for which the trail stands."""
    atlas = charted(program)
    need_trail(atlas, trail)
    return count_steps(atlas, trail)


def outcome_matrix(program, trail, number):
    """Return the outcome matrix of a piece of the trail."""
    atlas = charted(program)
    need_trail(atlas, trail)
    pieces = trail[0]
    if not fits_bounds(number, 0, len(pieces) - 1):
        raise InvalidNumber(number)
    return outcomes_of(atlas, pieces[:number + 1])[number]


def spelled_run(program, trail):
    """Return the run for which the trail stands."""
    atlas = charted(program)
    need_trail(atlas, trail)
    if count_steps(atlas, trail) > MAX_SPELLED:
        raise TooMany(MAX_SPELLED)
    run = []
    for depth, (name, moves) in enumerate(named_frames(atlas, trail)):
        if depth > 0:
            # This is the move from the frame before into this one.
            run.append(0)
        run.extend(spelled(atlas, trail[0], name, moves))
    return tuple(run)


def trail_of_run(program, run):
    """Return a trail that stands for the run: with one piece for each call that it finishes."""
    atlas = charted(program)
    along_run(atlas, run)
    course = Course(atlas)
    pieces, frames = [], [[]]
    for move in run:
        kind = node_now(course).kind
        name = course.frames[-1][0]
        step(course, move)
        if kind == "call":
            frames.append([])
        elif kind == "exit":
            pieces.append((name, tuple(frames.pop())))
            frames[-1].append(len(pieces) - 1)
        else:
            frames[-1].append(move)
    return tuple(pieces), tuple([tuple(moves) for moves in frames])


def need_trail(atlas, value):
    """Raise InvalidTrail if the value is not a trail."""
    if not fits_trail(atlas, value):
        raise InvalidTrail("not a trail of the program")


def fits_trail(atlas, value):
    """Return whether the value is a trail."""
    if not isinstance(value, tuple) or len(value) != 2:
        return False
    pieces, frames = value
    if not fits_pieces(atlas, pieces) or not isinstance(frames, tuple) or not frames:
        return False
    return frame_points(atlas, pieces, frames) is not None


def frame_points(atlas, pieces, frames):
    """Return the list of the points to which the frames lead, or None if these are not the frames of a trail."""
    names = [piece[0] for piece in pieces]
    name = "main"
    points = []
    for moves in frames:
        if points:
            node = node_at(atlas, points[-1])
            if node.kind != "call":
                return None
            name = node.callee
        place = place_reached(atlas, name, moves, names)
        if place is None:
            return None
        points.append((name, place))
    return points


def named_frames(atlas, trail):
    """Return the list of the pairs of the name of a procedure and of the moves of its frame."""
    pieces, frames = trail
    return [(point[0], moves) for point, moves in zip(frame_points(atlas, pieces, frames), frames)]


def traced(atlas, trail):
    """Return the point of the trail, and the entry and the state of its last frame."""
    pieces, frames = trail
    outcomes = outcomes_of(atlas, pieces)
    name = "main"
    entry = column_of(unit(1 + atlas.many_shared, 0))
    for moves in frames[:-1]:
        place, state = followed(atlas, name, with_locals(atlas.charts[name], entry), moves, outcomes)
        node = node_at(atlas, (name, place))
        name = node.callee
        entry = entry_of(atlas, node, state)
    place, state = followed(atlas, name, with_locals(atlas.charts[name], entry), frames[-1], outcomes)
    return (name, place), flat(entry), flat(state)


def count_steps(atlas, trail):
    """Return the number of moves of the run for which the trail stands."""
    lengths = lengths_of(atlas, trail[0])
    named = named_frames(atlas, trail)
    return sum([length_of(atlas.charts[name], moves, lengths) for name, moves in named]) + len(named) - 1
