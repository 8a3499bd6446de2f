"""Fewest variables: which variables determine a row at a point, and programs with simpler rows."""
from wordlaws.base.words import added, dot, fits_bounds, fits_vector, fits_word, multiplied
from wordlaws.code.charts import all_points, charted, fits_point, need_point, need_row, node_at
from wordlaws.code.rebuilding import rebuilt
from wordlaws.errors import InvalidChange, InvalidNumber, NotInvariant
from wordlaws.flow.entrances import entrances_of, state_module, states_at, trail_to
from wordlaws.flow.flows import flow_of
from wordlaws.invariants.invariants import breaking_pair
from wordlaws.modules.duals import solved
from wordlaws.modules.echelon import few_spanning, kernel
from wordlaws.runs.trails import fits_trail, traced


def is_determined(program, point, row, numbers):
    """Return whether the variables with these numbers determine the row at the point."""
    return determined_row(program, point, row, numbers) is not None


def determined_row(program, point, row, numbers):
    """Return a row that uses only these variables and is equal at the point, or None if there is none."""
    atlas = charted(program)
    need_point(atlas, point)
    need_row(atlas, point[0], row)
    need_numbers(atlas, point[0], numbers)
    return equal_row(atlas.word_width, state_module(entrances_of(flow_of(atlas)), point), row, numbers)


def separating_mixture(program, point, row, numbers):
    """Return a mixture that separates the row from these variables, or None if there is none."""
    atlas = charted(program)
    need_point(atlas, point)
    need_row(atlas, point[0], row)
    need_numbers(atlas, point[0], numbers)
    entrances = entrances_of(flow_of(atlas))
    width = atlas.word_width
    found = states_at(entrances, point)
    chosen = [found[which] for which in few_spanning(width, [state for state, _ in found])]
    zeros = [tuple([state[column] for state, _ in chosen]) for column in (0,) + numbers]
    values = tuple([dot(width, row, state) for state, _ in chosen])
    for words in kernel(width, len(chosen), zeros):
        if dot(width, words, values) != 0:
            trails = [trail_to(entrances, point, pair) for _, pair in chosen]
            return tuple([(word, trail) for word, trail in zip(words, trails) if word != 0])
    return None


def is_separating_mixture(program, point, row, numbers, value):
    """Return whether the value is a mixture that separates the row from these variables."""
    atlas = charted(program)
    need_point(atlas, point)
    need_row(atlas, point[0], row)
    need_numbers(atlas, point[0], numbers)
    total = mixed(atlas, point, value)
    if total is None:
        return False
    return all([total[column] == 0 for column in (0,) + numbers]) and dot(atlas.word_width, row, total) != 0


def fewest_variables(program, point, row):
    """Return the numbers of the fewest variables that determine the row, and an equal row that uses them."""
    atlas = charted(program)
    need_point(atlas, point)
    need_row(atlas, point[0], row)
    return fewest(atlas.word_width, state_module(entrances_of(flow_of(atlas)), point), row)


def rewritten(program, *changes):
    """Return the program in which the changes (point, index, row) put equal rows in the place of its own."""
    atlas = charted(program)
    for change in changes:
        if not fits_change(atlas, change):
            raise InvalidChange("a change is a triple of a point, the index of a row there and an equal row")
    if len(set([change[:2] for change in changes])) < len(changes):
        raise InvalidChange("two changes name the same row")
    entrances = entrances_of(flow_of(atlas))
    rows = {}
    for point, index, row in changes:
        old = rows_at(atlas, point)[index]
        pair = breaking_pair(entrances, point, added(atlas.word_width, row, multiplied(atlas.word_width, old, -1)))
        if pair is not None:
            raise NotInvariant(trail_to(entrances, point, pair))
        if point not in rows:
            rows[point] = {}
        rows[point][index] = row
    return with_rows(program, atlas, rows)


def simplified(program):
    """Return the program in which the row of each set and each argument uses the fewest variables."""
    atlas = charted(program)
    entrances = entrances_of(flow_of(atlas))
    rows = {}
    for point in all_points(atlas):
        old = rows_at(atlas, point)
        if old:
            states = state_module(entrances, point)
            rows[point] = {index: fewest(atlas.word_width, states, row)[1] for index, row in enumerate(old)}
    return with_rows(program, atlas, rows)


def fits_numbers(atlas, name, value):
    """Return whether the value is an ascending tuple of numbers of variables of the procedure."""
    if not isinstance(value, tuple):
        return False
    many = atlas.charts[name].state_size - 1
    if not all([fits_bounds(number, 1, many) for number in value]):
        return False
    return all([before < behind for before, behind in zip(value, value[1:])])


def need_numbers(atlas, name, value):
    """Raise InvalidNumber if the value is not an ascending tuple of numbers of variables of the procedure."""
    if not fits_numbers(atlas, name, value):
        raise InvalidNumber(value)


def equal_row(width, states, row, numbers):
    """Return a row that uses these variables and has the same values on the states, or None if there is none."""
    columns = (0,) + numbers
    if all([word == 0 or column in columns for column, word in enumerate(row)]):
        return row
    used = [tuple([state[column] for column in columns]) for state in states]
    found = solved(width, len(columns), used, [dot(width, row, state) for state in states])
    if found is None:
        return None
    words = {column: word for column, word in zip(columns, found)}
    return tuple([words.get(column, 0) for column in range(len(row))])


def fewest(width, states, row):
    """Return the fewest numbers for which there is such a row, and the row."""
    chosen = [()]
    for number in range(1, len(row)):
        chosen = chosen + [numbers + (number,) for numbers in chosen]
    for numbers in sorted(chosen, key=lambda entry: (len(entry), entry)):
        found = equal_row(width, states, row, numbers)
        if found is not None:
            return numbers, found
    # Not reached: all variables together determine each row.
    return chosen[-1], row


def mixed(atlas, point, value):
    """Return the vector of the mixture, or None if the value is not a mixture at the point."""
    if not isinstance(value, tuple):
        return None
    total = (0,) * atlas.charts[point[0]].state_size
    for part in value:
        if not isinstance(part, tuple) or len(part) != 2:
            return None
        word, trail = part
        if not fits_word(atlas.word_width, word) or not fits_trail(atlas, trail):
            return None
        reached, _, state = traced(atlas, trail)
        if reached != point:
            return None
        total = added(atlas.word_width, total, multiplied(atlas.word_width, state, word))
    return total


def rows_at(atlas, point):
    """Return the rows that a change can replace at the point: that of a set, or the arguments of a call."""
    node = node_at(atlas, point)
    if node.kind == "set":
        return (node.row,)
    return node.arguments


def fits_change(atlas, value):
    """Return whether the value is a change, whose row may be equal to the old one or not."""
    if not isinstance(value, tuple) or len(value) != 3:
        return False
    point, index, row = value
    if not fits_point(atlas, point) or not fits_bounds(index, 0, len(rows_at(atlas, point)) - 1):
        return False
    return fits_vector(atlas.word_width, atlas.charts[point[0]].state_size, row)


def with_rows(program, atlas, rows):
    """Return the program with new rows: a dict from points to dicts from indices to rows."""
    replacements = {}
    for point, new in rows.items():
        node = node_at(atlas, point)
        if node.kind == "set":
            replacements[point] = (node.statement[:2] + (new[0],),)
        else:
            arguments = tuple([new.get(index, row) for index, row in enumerate(node.arguments)])
            replacements[point] = (node.statement[:3] + (arguments,),)
    return rebuilt(program, replacements)
