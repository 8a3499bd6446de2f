"""Which variables are needed at which points for the value of a row at one point.

Variables are kept as bits: a variable in column k of rows is the bit 2 ** k of an integer.
"""
from wordlaws.code.charts import all_points, node_at


def column_bit(column):
    """Return the integer with the bit of the column alone."""
    return 1 << column


def coefficient_bits(row):
    """Return the bits of the variables with coefficients other than 0 in the row."""
    return sum([column_bit(column) for column, word in enumerate(row) if column > 0 and word != 0])


def needed_bits(atlas, point, row):
    """Return the dict from all points to the bits of the variables that are needed there."""
    points = all_points(atlas)[::-1]
    needed = {other: 0 for other in points}
    needed[point] = coefficient_bits(row)
    before = {}
    while before != needed:
        before = {other: needed[other] for other in points}
        # Most steps lead forward in the text, so the points are taken backward.
        for other in points:
            spread_back(atlas, needed, other)
    return needed


def spread_back(atlas, needed, point):
    """Add the bits of what is needed before the step at the point, for what is needed behind it."""
    name, _ = point
    node = node_at(atlas, point)
    behind = 0
    for place in node.exits:
        behind = behind | needed[(name, place)]
    if node.kind == "call":
        behind = before_call(atlas, needed, node, behind)
    elif node.kind in ("set", "input") and behind & column_bit(node.column) != 0:
        # The row of an input is empty.
        behind = behind - column_bit(node.column) | coefficient_bits(node.row)
    needed[point] = needed[point] | behind


def before_call(atlas, needed, node, behind):
    """Return the bits of what is needed before the call; add those of what is needed at the exit of the callee."""
    callee = atlas.charts[node.callee]
    first = 1 + atlas.many_shared
    at_entry, at_exit, found = needed[(callee.name, (0,))], 0, 0
    for target, column in zip(node.targets, callee.outcome_columns[first:]):
        if behind & column_bit(target) != 0:
            behind = behind - column_bit(target)
            at_exit = at_exit | column_bit(column)
    for column in range(1, first):
        at_exit = at_exit | behind & column_bit(column)
        found = found | at_entry & column_bit(column)
    for index, argument in enumerate(node.arguments):
        if at_entry & column_bit(first + index) != 0:
            found = found | coefficient_bits(argument)
    needed[(callee.name, callee.last)] = needed[(callee.name, callee.last)] | at_exit
    return found | behind & -column_bit(first)
