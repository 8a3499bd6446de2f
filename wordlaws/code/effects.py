"""What steps do to matrices.

A matrix takes the entry of a procedure to a state of it; a state itself is treated as a matrix of one column.
The functions of this file check nothing.
"""
from wordlaws.base.words import multiplied
from wordlaws.code.rows import times_matrix
from wordlaws.modules.echelon import unit


def flat(matrix):
    """Return the matrix as a vector."""
    return tuple([entry for row in matrix for entry in row])


def folded(vector, many):
    """Return the vector as a matrix with this many columns."""
    return tuple([vector[start:start + many] for start in range(0, len(vector), many)])


def column_of(vector):
    """Return the vector as a matrix of one column."""
    return tuple([(entry,) for entry in vector])


def identity(size):
    """Return the matrix that changes nothing."""
    return tuple([unit(size, column) for column in range(size)])


def with_locals(chart, matrix):
    """Return the state at the entry place, which is the entry with 0 for each local."""
    zeros = (0,) * len(matrix[0])
    return matrix + (zeros,) * (chart.state_size - chart.entry_size)


def first_matrix(chart):
    """Return the matrix of the run that has not left the entry place yet."""
    return with_locals(chart, identity(chart.entry_size))


def outcome_of(chart, matrix):
    """Return the rows of the constant, the globals and the results."""
    return tuple([matrix[column] for column in chart.outcome_columns])


def entry_of(atlas, node, matrix):
    """Return the entry with which the call at the node begins: the constant, the globals and the arguments."""
    return matrix[:1 + atlas.many_shared] + times_matrix(atlas.word_width, node.arguments, matrix)


def replaced(matrix, index, row):
    """Return the matrix with another row."""
    return matrix[:index] + (row,) + matrix[index + 1:]


def after_step(atlas, node, matrix, move):
    """Return the matrix behind a step at a node that is neither a call nor an exit."""
    if node.kind == "set":
        return replaced(matrix, node.column, times_matrix(atlas.word_width, (node.row,), matrix)[0])
    if node.kind == "input":
        return replaced(matrix, node.column, multiplied(atlas.word_width, matrix[0], move))
    return matrix


def after_call(atlas, node, matrix, outcome):
    """Return the matrix behind a call that does what the outcome matrix of the callee says."""
    width, many = atlas.word_width, atlas.many_shared
    factor = outcome[0][0]
    behind = times_matrix(width, outcome, entry_of(atlas, node, matrix))
    rows = [multiplied(width, row, factor) for row in matrix]
    rows[1:1 + many] = behind[1:1 + many]
    for target, row in zip(node.targets, behind[1 + many:]):
        rows[target] = row
    return tuple(rows)


def spanning_moves(node):
    """Return moves at a node, neither a call nor an exit, such that the matrices behind them span those of all moves.

    At an input the words 0 and 1 are enough: what another word gives is a sum of multiples of what they give.
    """
    if node.kind == "input":
        return (0, 1)
    return tuple(range(len(node.exits)))
