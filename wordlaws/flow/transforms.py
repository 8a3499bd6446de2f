"""Transforms: which matrices the runs within a procedure have."""
from wordlaws.code.charts import charted, need_point
from wordlaws.code.programs import need_procedure
from wordlaws.flow.flows import all_pieces, flow_of
from wordlaws.runs.pieces import needed_pieces


def transform_basis(program, point):
    """Return the basis of the transform module of the point."""
    atlas = charted(program)
    need_point(atlas, point)
    return flow_of(atlas).growths[point].basis_now()


def transform_bases(program):
    """Return the dict from all points to the bases of their transform modules."""
    flow = flow_of(charted(program))
    return {point: growth.basis_now() for point, growth in flow.growths.items()}


def outcome_basis(program, name):
    """Return the basis of the outcome module of the procedure."""
    atlas = charted(program)
    need_procedure(program, name)
    return flow_of(atlas).outcomes[name].basis_now()


def spanning_pieces(program, name):
    """Return pieces, and the numbers of some of this procedure whose outcome matrices span the outcome module."""
    atlas = charted(program)
    need_procedure(program, name)
    flow = flow_of(atlas)
    outcomes = flow.outcomes[name]
    wanted = [outcomes.sources[which] for which in outcomes.few]
    pieces, numbers = needed_pieces(atlas, all_pieces(flow), wanted)
    return pieces, tuple(sorted([numbers[old] for old in wanted]))


def does_return(program, name):
    """Return whether some run through the procedure ends."""
    atlas = charted(program)
    need_procedure(program, name)
    return len(flow_of(atlas).outcomes[name].found) > 0
