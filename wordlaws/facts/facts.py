"""Facts: unreachable points, endless procedures, and which values rows have in all runs to a point."""
from wordlaws.base.words import dot, level
from wordlaws.code.charts import charted, fits_point, need_point, need_row
from wordlaws.errors import UnknownPoint
from wordlaws.flow.entrances import entrances_of, state_module, states_at, trail_to
from wordlaws.flow.flows import flow_of
from wordlaws.modules.echelon import echelon, kernel


def unreachable_points(program):
    """Return the points to which no run leads, ascending."""
    entrances = entrances_of(flow_of(charted(program)))
    return tuple([point for point in entrances.flow.growths if not states_at(entrances, point)])


def endless_procedures(program):
    """Return the names of the procedures through which no run ends, ascending."""
    flow = flow_of(charted(program))
    return tuple([name for name, outcomes in flow.outcomes.items() if not outcomes.found])


def same_bits(program, point, row):
    """Return how many low bits the values of the row in all runs to the point have in common, and these bits."""
    atlas = charted(program)
    need_point(atlas, point)
    need_row(atlas, point[0], row)
    return common_bits(atlas.word_width, values_at(entrances_of(flow_of(atlas)), point, row))


def differing_trails(program, point, row):
    """Return two trails to the point whose values of the row differ in the first bit that is not always the same.

    Return None if all bits are.
    """
    atlas = charted(program)
    need_point(atlas, point)
    need_row(atlas, point[0], row)
    entrances = entrances_of(flow_of(atlas))
    values = values_at(entrances, point, row)
    count, _ = common_bits(atlas.word_width, values)
    if count == atlas.word_width:
        return None
    levels = differences(atlas.word_width, values)
    found = states_at(entrances, point)
    return trail_to(entrances, point, found[0][1]), trail_to(entrances, point, found[levels.index(count)][1])


def are_equal(program, point, *rows):
    """Return whether all rows are equal at the point."""
    return len(equal_classes(program, point, *rows)) <= 1


def equal_classes(program, point, *rows):
    """Return the classes of rows that are equal at the point, as tuples of indices of the arguments."""
    atlas = charted(program)
    need_point(atlas, point)
    for row in rows:
        need_row(atlas, point[0], row)
    width = atlas.word_width
    states = state_module(entrances_of(flow_of(atlas)), point)
    classes = {}
    for index, row in enumerate(rows):
        values = tuple([dot(width, row, state) for state in states])
        classes.setdefault(values, []).append(index)
    return tuple([tuple(indices) for indices in classes.values()])


def common_invariants(program, point, *points):
    """Return the basis of the rows that are invariants at all these points of one procedure."""
    atlas = charted(program)
    need_point(atlas, point)
    for other in points:
        if not fits_point(atlas, other) or other[0] != point[0]:
            raise UnknownPoint(other)
    entrances = entrances_of(flow_of(atlas))
    states = []
    for other in sorted(set((point,) + points)):
        states.extend(state_module(entrances, other))
    return kernel(atlas.word_width, atlas.charts[point[0]].state_size, echelon(atlas.word_width, states))


def values_at(entrances, point, row):
    """Return the list of the values of the row on the states of `states_at`."""
    return [dot(entrances.flow.atlas.word_width, row, state) for state, _ in states_at(entrances, point)]


def differences(width, values):
    """Return the list of the levels of the differences of the values from the first one."""
    mask = (1 << width) - 1
    return [level(width, (value - values[0]) & mask) for value in values]


def common_bits(width, values):
    """Return how many low bits the values have in common, and these bits; of no values all bits, which are 0."""
    if not values:
        return width, 0
    count = min(differences(width, values))
    return count, values[0] & ((1 << count) - 1)
