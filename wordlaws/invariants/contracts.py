"""Contracts of procedures and preconditions of rows, with the calls and the ways that break them."""
from wordlaws.base.words import added, dot, fits_vector
from wordlaws.code.charts import charted, need_point, need_row
from wordlaws.code.effects import column_of, flat, outcome_of, with_locals
from wordlaws.code.programs import need_procedure
from wordlaws.code.rows import times_matrix
from wordlaws.errors import InvalidTrail, InvalidVector
from wordlaws.flow.entrances import entrances_of, trail_to
from wordlaws.flow.flows import all_pieces, flow_of, moves_to
from wordlaws.modules.echelon import echelon, kernel, unit
from wordlaws.runs.pieces import fits_pieces, followed, outcomes_of, place_reached, without_unused
from wordlaws.runs.trails import fits_trail, traced


def is_way(program, point, value):
    """Return whether the value is a way to the point."""
    atlas = charted(program)
    need_point(atlas, point)
    return fits_way(atlas, point, value)


def way_state(program, point, way, entry):
    """Return the state of the way from the entry."""
    atlas = charted(program)
    need_point(atlas, point)
    if not fits_way(atlas, point, way):
        raise InvalidTrail("not a way to the point")
    need_entry(atlas, point[0], entry)
    return state_on(atlas, point[0], way, entry)


def contract_basis(program, name, *, observed=False):
    """Return the basis of all contracts of the procedure, or of the observed ones."""
    atlas = charted(program)
    need_procedure(program, name)
    return kernel(atlas.word_width, contract_size(atlas, name), call_module(atlas, name, observed))


def is_contract(program, name, value, *, observed=False):
    """Return whether the value is a contract of the procedure, or an observed one."""
    atlas = charted(program)
    need_procedure(program, name)
    if not fits_vector(atlas.word_width, contract_size(atlas, name), value):
        return False
    return all([dot(atlas.word_width, value, vector) == 0 for vector in call_module(atlas, name, observed)])


def breaking_call(program, name, contract):
    """Return a finished call with whose vector the dot product of the contract is not 0, or None if there is none."""
    atlas = charted(program)
    need_procedure(program, name)
    need_contract(atlas, name, contract)
    flow = flow_of(atlas)
    entries = some_entries(atlas, name)
    for vector, index, number in calls_from(flow, name, entries):
        if dot(atlas.word_width, contract, vector) != 0:
            return flat(entries[index]), way_to(flow, (name, atlas.charts[name].last), number)
    return None


def is_breaking_call(program, name, contract, value):
    """Return whether the value is a finished call with whose vector the dot product of the contract is not 0."""
    atlas = charted(program)
    need_procedure(program, name)
    need_contract(atlas, name, contract)
    if not isinstance(value, tuple) or len(value) != 2:
        return False
    entry, way = value
    if not fits_entry(atlas, name, entry) or not fits_way(atlas, (name, atlas.charts[name].last), way):
        return False
    vector = call_vector(atlas.charts[name], entry, state_on(atlas, name, way, entry))
    return dot(atlas.word_width, contract, vector) != 0


def breaking_exit(program, name, contract):
    """Return a trail to the exit such that the contract does not hold for the call of its last frame, or None."""
    atlas = charted(program)
    need_procedure(program, name)
    need_contract(atlas, name, contract)
    entrances = entrances_of(flow_of(atlas))
    entries = entrances.entries[name]
    for vector, place, number in calls_from(entrances.flow, name, [entries.found[index] for index in entries.few]):
        if dot(atlas.word_width, contract, vector) != 0:
            return trail_to(entrances, (name, atlas.charts[name].last), (entries.few[place], number))
    return None


def is_breaking_exit(program, name, contract, value):
    """Return whether the value is a trail to the exit such that the contract does not hold for its last call."""
    atlas = charted(program)
    need_procedure(program, name)
    need_contract(atlas, name, contract)
    if not fits_trail(atlas, value):
        return False
    point, entry, state = traced(atlas, value)
    if point != (name, atlas.charts[name].last):
        return False
    return dot(atlas.word_width, contract, call_vector(atlas.charts[name], entry, state)) != 0


def precondition_basis(program, point, row):
    """Return the basis of the precondition of the row at the point."""
    atlas = charted(program)
    need_point(atlas, point)
    need_row(atlas, point[0], row)
    return echelon(atlas.word_width, [vector for vector, _ in preconditions(flow_of(atlas), point, row)])


def meets_precondition(program, point, row, entry):
    """Return whether all vectors of the precondition are 0 on the entry."""
    atlas = charted(program)
    need_point(atlas, point)
    need_row(atlas, point[0], row)
    need_entry(atlas, point[0], entry)
    found = preconditions(flow_of(atlas), point, row)
    return all([dot(atlas.word_width, vector, entry) == 0 for vector, _ in found])


def breaking_way(program, point, row, entry):
    """Return a way to the point on whose state from the entry the row is not 0, or None if there is none."""
    atlas = charted(program)
    need_point(atlas, point)
    need_row(atlas, point[0], row)
    need_entry(atlas, point[0], entry)
    flow = flow_of(atlas)
    for vector, number in preconditions(flow, point, row):
        if dot(atlas.word_width, vector, entry) != 0:
            return way_to(flow, point, number)
    return None


def is_breaking_way(program, point, row, entry, value):
    """Return whether the value is a way to the point on whose state from the entry the row is not 0."""
    atlas = charted(program)
    need_point(atlas, point)
    need_row(atlas, point[0], row)
    need_entry(atlas, point[0], entry)
    if not fits_way(atlas, point, value):
        return False
    return dot(atlas.word_width, row, state_on(atlas, point[0], value, entry)) != 0


def fits_way(atlas, point, value):
    """Return whether the value is a way to the point."""
    if not isinstance(value, tuple) or len(value) != 2:
        return False
    pieces, moves = value
    if not fits_pieces(atlas, pieces):
        return False
    return place_reached(atlas, point[0], moves, [piece[0] for piece in pieces]) == point[1]


def fits_entry(atlas, name, value):
    """Return whether the value is an entry of the procedure."""
    return fits_vector(atlas.word_width, atlas.charts[name].entry_size, value) and value[0] == 1


def need_entry(atlas, name, value):
    """Raise InvalidVector if the value is not an entry of the procedure."""
    if not fits_entry(atlas, name, value):
        raise InvalidVector(f"an entry of {name} is 1, the globals and the parameters")


def contract_size(atlas, name):
    """Return the size of the contracts of the procedure."""
    chart = atlas.charts[name]
    return chart.entry_size + len(chart.outcome_columns) - 1


def need_contract(atlas, name, value):
    """Raise InvalidVector if the value does not have the size of a contract of the procedure."""
    size = contract_size(atlas, name)
    if not fits_vector(atlas.word_width, size, value):
        raise InvalidVector(f"a contract of {name} is a vector of size {size}")


def state_on(atlas, name, way, entry):
    """Return the state of the way from the entry."""
    pieces, moves = way
    start = with_locals(atlas.charts[name], column_of(entry))
    _, state = followed(atlas, name, start, moves, outcomes_of(atlas, pieces))
    return flat(state)


def way_to(flow, point, number):
    """Return the way to the point that has the matrix with this number there."""
    runs = [(point[0], moves_to(flow, point, number))]
    pieces, moves = without_unused(flow.atlas, all_pieces(flow), runs)
    return pieces, moves[0]


def call_vector(chart, entry, state):
    """Return the vector of the finished call that begins with the entry and leads to the state at the exit."""
    return entry + outcome_of(chart, state)[1:]


def some_entries(atlas, name):
    """Return entries that span the module of all vectors, as matrices of one column."""
    size = atlas.charts[name].entry_size
    first = unit(size, 0)
    others = [added(atlas.word_width, first, unit(size, column)) for column in range(1, size)]
    return [column_of(entry) for entry in [first] + others]


def calls_from(flow, name, entries):
    """Return a list of triples (vector, index, number), whose vectors span those of all calls from these entries.

    The call begins with the entry with the index, and has the matrix with the number at the exit.
    """
    chart = flow.atlas.charts[name]
    exits = flow.growths[(name, chart.last)]
    found = []
    for index, entry in enumerate(entries):
        for number in exits.few:
            state = times_matrix(flow.atlas.word_width, exits.found[number], entry)
            found.append((call_vector(chart, flat(entry), flat(state)), index, number))
    return found


def call_module(atlas, name, observed):
    """Return the basis of the span of the vectors of all finished calls, or of those that runs of the program make."""
    flow = flow_of(atlas)
    entries = some_entries(atlas, name)
    if observed is True:
        entries = entrances_of(flow).entries[name].found
    return echelon(atlas.word_width, [found[0] for found in calls_from(flow, name, entries)])


def preconditions(flow, point, row):
    """Return the list of the products of the row with matrices that span the transform module of the point.

    Each stands in a pair with the number of its matrix.
    """
    growth = flow.growths[point]
    width = flow.atlas.word_width
    return [(flat(times_matrix(width, (row,), growth.found[number])), number) for number in growth.few]
