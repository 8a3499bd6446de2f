"""States: which vectors the runs of a program lead to."""
from wordlaws.code.charts import charted, need_point
from wordlaws.code.programs import need_procedure
from wordlaws.flow.entrances import entrances_of, state_module, states_at, trail_to
from wordlaws.flow.flows import flow_of
from wordlaws.modules.echelon import few_spanning


def state_basis(program, point):
    """Return the basis of the state module of the point."""
    atlas = charted(program)
    need_point(atlas, point)
    return state_module(entrances_of(flow_of(atlas)), point)


def state_bases(program):
    """Return the dict from all points to the bases of their state modules."""
    flow = flow_of(charted(program))
    entrances = entrances_of(flow)
    return {point: state_module(entrances, point) for point in flow.growths}


def entry_basis(program, name):
    """Return the basis of the entry module of the procedure."""
    atlas = charted(program)
    need_procedure(program, name)
    return entrances_of(flow_of(atlas)).entries[name].basis_now()


def spanning_trails(program, point):
    """Return trails to the point whose states span its state module, none if it is not reachable."""
    atlas = charted(program)
    need_point(atlas, point)
    entrances = entrances_of(flow_of(atlas))
    found = states_at(entrances, point)
    chosen = few_spanning(atlas.word_width, [state for state, _ in found])
    return tuple([trail_to(entrances, point, found[which][1]) for which in chosen])


def is_reachable(program, point):
    """Return whether some run leads to the point."""
    atlas = charted(program)
    need_point(atlas, point)
    return len(states_at(entrances_of(flow_of(atlas)), point)) > 0
