"""Which values are tables, and which tables are closed."""
from wordlaws.code.charts import all_points, fits_point, led_to, node_at
from wordlaws.code.effects import after_call, after_step, column_of, entry_of, first_matrix, flat, folded, outcome_of
from wordlaws.code.effects import spanning_moves
from wordlaws.code.rows import times_vector
from wordlaws.modules.bases import fits_basis, spans
from wordlaws.modules.echelon import echelon, unit


def fits_closed_table(atlas, value):
    """Return whether the value is a closed table."""
    if not fits_table(atlas, value) or not has_beginnings(atlas, value):
        return False
    outcomes = {name: outcomes_in(atlas, value, name) for name in atlas.charts}
    for point in all_points(atlas):
        if not has_behind(atlas, value, outcomes, point):
            return False
        if not has_states(atlas, value, point) or not has_entries(atlas, value, point):
            return False
    return True


def fits_table(atlas, value):
    """Return whether the value is a table."""
    if not isinstance(value, tuple) or len(value) != 2:
        return False
    entries, points = value
    return fits_entries(atlas, entries) and fits_points(atlas, points)


def fits_entries(atlas, value):
    """Return whether the value is a dict from the names of all procedures to bases of entries."""
    if not isinstance(value, dict) or len(value) != len(atlas.charts):
        return False
    for name, basis in value.items():
        if not isinstance(name, str) or name not in atlas.charts:
            return False
        if not fits_basis(atlas.word_width, atlas.charts[name].entry_size, basis):
            return False
    return True


def fits_points(atlas, value):
    """Return whether the value is a dict from all points to pairs of a basis of matrices and a basis of states."""
    if not isinstance(value, dict) or len(value) != len(all_points(atlas)):
        return False
    for point, pair in value.items():
        if not fits_point(atlas, point) or not isinstance(pair, tuple) or len(pair) != 2:
            return False
        chart = atlas.charts[point[0]]
        transforms, states = pair
        if not fits_basis(atlas.word_width, chart.state_size * chart.entry_size, transforms):
            return False
        if not fits_basis(atlas.word_width, chart.state_size, states):
            return False
    return True


def matrices_in(atlas, table, point):
    """Return the list of the basis matrices of the point."""
    many = atlas.charts[point[0]].entry_size
    return [folded(vector, many) for vector in table[1][point][0]]


def outcomes_in(atlas, table, name):
    """Return the list of the basis matrices of the outcome module of the procedure."""
    chart = atlas.charts[name]
    vectors = [flat(outcome_of(chart, matrix)) for matrix in matrices_in(atlas, table, (name, chart.last))]
    return [folded(vector, chart.entry_size) for vector in echelon(atlas.word_width, vectors)]


def has_beginnings(atlas, table):
    """Return whether the table has the first entry of main, and the first matrix of each procedure."""
    entries, points = table
    if not spans(atlas.word_width, entries["main"], unit(1 + atlas.many_shared, 0)):
        return False
    for name, chart in atlas.charts.items():
        if not spans(atlas.word_width, points[(name, (0,))][0], flat(first_matrix(chart))):
            return False
    return True


def has_behind(atlas, table, outcomes, point):
    """Return whether the places to which steps lead from the point have the matrices that are behind the steps."""
    for matrix in matrices_in(atlas, table, point):
        for place, behind in matrices_behind(atlas, outcomes, point, matrix):
            if not spans(atlas.word_width, table[1][(point[0], place)][0], flat(behind)):
                return False
    return True


def matrices_behind(atlas, outcomes, point, matrix):
    """Return the list of the pairs of a place to which a step leads and of the matrix there."""
    node = node_at(atlas, point)
    if node.kind == "exit":
        return []
    if node.kind == "call":
        return [(node.exits[0], after_call(atlas, node, matrix, outcome)) for outcome in outcomes[node.callee]]
    return [(led_to(node, move), after_step(atlas, node, matrix, move)) for move in spanning_moves(node)]


def has_states(atlas, table, point):
    """Return whether the states of the point contain the products of its matrices with the entries."""
    entries, points = table
    states = points[point][1]
    for matrix in matrices_in(atlas, table, point):
        for entry in entries[point[0]]:
            if not spans(atlas.word_width, states, times_vector(atlas.word_width, matrix, entry)):
                return False
    return True


def has_entries(atlas, table, point):
    """Return whether the callee, if the point is before a call, has the entries that the states of the point give."""
    entries, points = table
    node = node_at(atlas, point)
    if node.kind != "call":
        return True
    for state in points[point][1]:
        if not spans(atlas.word_width, entries[node.callee], flat(entry_of(atlas, node, column_of(state)))):
            return False
    return True
