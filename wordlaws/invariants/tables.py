"""Closed tables, which prove invariants, and papers, which settle whether a row is one."""
from wordlaws.base.words import dot
from wordlaws.code.charts import charted, need_point, need_row
from wordlaws.flow.entrances import entrances_of, state_module, trail_to
from wordlaws.flow.flows import flow_of
from wordlaws.invariants.closure import fits_closed_table
from wordlaws.invariants.invariants import breaking_pair, breaks


def least_table(program):
    """Return the least closed table."""
    return table_of(entrances_of(flow_of(charted(program))))


def is_closed_table(program, value):
    """Return whether the value is a closed table."""
    return fits_closed_table(charted(program), value)


def invariant_paper(program, point, row):
    """Return a closed table in which the row is 0 on the states of the point, or a trail on which it is not 0."""
    atlas = charted(program)
    need_point(atlas, point)
    need_row(atlas, point[0], row)
    entrances = entrances_of(flow_of(atlas))
    pair = breaking_pair(entrances, point, row)
    if pair is None:
        return "table", table_of(entrances)
    return "trail", trail_to(entrances, point, pair)


def is_invariant_paper(program, point, row, value):
    """Return whether the value is an invariant paper for the point and the row."""
    atlas = charted(program)
    need_point(atlas, point)
    need_row(atlas, point[0], row)
    if not isinstance(value, tuple) or len(value) != 2:
        return False
    kind, paper = value
    if kind == "trail":
        return breaks(atlas, point, row, paper)
    if kind != "table" or not fits_closed_table(atlas, paper):
        return False
    _, states = paper[1][point]
    return all([dot(atlas.word_width, row, state) == 0 for state in states])


def table_of(entrances):
    """Return the table of the least modules."""
    entries = {name: growth.basis_now() for name, growth in entrances.entries.items()}
    points = {
        point: (growth.basis_now(), state_module(entrances, point)) for point, growth in entrances.flow.growths.items()
    }
    return entries, points
