"""Invariants: the rows that are 0 on the states of all runs to a point."""
from wordlaws.base.words import dot
from wordlaws.code.charts import charted, need_point, need_row
from wordlaws.flow.entrances import entrances_of, state_module, states_at, trail_to
from wordlaws.flow.flows import flow_of
from wordlaws.modules.echelon import kernel
from wordlaws.runs.trails import fits_trail, traced


def invariant_basis(program, point):
    """Return the basis of the invariants of the point."""
    atlas = charted(program)
    need_point(atlas, point)
    states = state_module(entrances_of(flow_of(atlas)), point)
    return kernel(atlas.word_width, atlas.charts[point[0]].state_size, states)


def is_invariant(program, point, row):
    """Return whether the row is an invariant at the point."""
    atlas = charted(program)
    need_point(atlas, point)
    need_row(atlas, point[0], row)
    return breaking_pair(entrances_of(flow_of(atlas)), point, row) is None


def breaking_trail(program, point, row):
    """Return a trail to the point on whose state the row is not 0, or None if the row is an invariant."""
    atlas = charted(program)
    need_point(atlas, point)
    need_row(atlas, point[0], row)
    entrances = entrances_of(flow_of(atlas))
    pair = breaking_pair(entrances, point, row)
    if pair is None:
        return None
    return trail_to(entrances, point, pair)


def is_breaking_trail(program, point, row, value):
    """Return whether the value is a trail to the point on whose state the row is not 0."""
    atlas = charted(program)
    need_point(atlas, point)
    need_row(atlas, point[0], row)
    return breaks(atlas, point, row, value)


def breaking_pair(entrances, point, row):
    """Return which entry and which matrix give a state at the point on which the row is not 0, or None."""
    width = entrances.flow.atlas.word_width
    for state, pair in states_at(entrances, point):
        if dot(width, row, state) != 0:
            return pair
    return None


def breaks(atlas, point, row, value):
    """Return whether the value is a trail to the point on whose state the row is not 0."""
    if not fits_trail(atlas, value):
        return False
    reached, _, state = traced(atlas, value)
    return reached == point and dot(atlas.word_width, row, state) != 0
