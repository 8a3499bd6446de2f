"""Places and points of programs, what stands there, and where a step leads."""
from wordlaws.code.charts import all_points, charted, fits_move, led_to, need_point, node_at
from wordlaws.code.programs import need_procedure
from wordlaws.errors import InvalidNumber


def places_of(program, name):
    """Return the places of the procedure, ascending."""
    atlas = charted(program)
    need_procedure(program, name)
    return tuple(atlas.charts[name].nodes)


def points_of(program):
    """Return the points of the program, ascending."""
    return tuple(all_points(charted(program)))


def statement_at(program, point):
    """Return the statement before which the point is, or None at the end of a block and at an exit."""
    atlas = charted(program)
    need_point(atlas, point)
    return node_at(atlas, point).statement


def next_place(program, point, move):
    """Return the place to which the step with this move leads, for a call the place behind it."""
    atlas = charted(program)
    need_point(atlas, point)
    node = node_at(atlas, point)
    if not fits_move(atlas.word_width, node, move):
        raise InvalidNumber(move)
    return led_to(node, move)
