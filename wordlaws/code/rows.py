"""Matrices of one to five rows and columns, and their products."""
from wordlaws.base.words import dot, fits_bounds, fits_vectors, need_vector, need_width
from wordlaws.errors import InvalidMatrix, InvalidNumber

MAX_SIDE = 5


def is_matrix(width, rows, columns, value):
    """Return whether the value is a matrix with these numbers of rows and columns."""
    need_width(width)
    need_side(rows)
    need_side(columns)
    return isinstance(value, tuple) and len(value) == rows and fits_vectors(width, columns, value)


def matrix_times(width, matrix, vector):
    """Return the product of the matrix with the vector."""
    need_width(width)
    need_matrix(width, matrix)
    need_vector(width, len(matrix[0]), vector)
    return times_vector(width, matrix, vector)


def matrix_product(width, *matrices):
    """Return the product of the matrices, one or more, of which the last one is done first."""
    need_width(width)
    if not matrices:
        raise InvalidMatrix("there is no matrix")
    for matrix in matrices:
        need_matrix(width, matrix)
    for first, second in zip(matrices, matrices[1:]):
        if len(second) != len(first[0]):
            raise InvalidMatrix("a matrix has as many rows as the one before it has columns")
    done = matrices[0]
    for matrix in matrices[1:]:
        done = times_matrix(width, done, matrix)
    return done


def fits_side(value):
    """Return whether the value is a number of rows or columns of a matrix."""
    return fits_bounds(value, 1, MAX_SIDE)


def need_side(value):
    """Raise InvalidNumber if the value is not a number of rows or columns of a matrix."""
    if not fits_side(value):
        raise InvalidNumber(value)


def need_matrix(width, value):
    """Raise InvalidMatrix if the value is not a matrix of any number of rows and columns."""
    if not fits_any_matrix(width, value):
        raise InvalidMatrix("a matrix is a tuple of 1 to 5 vectors of one size from 1 to 5")


def fits_any_matrix(width, value):
    """Return whether the value is a matrix of any number of rows and columns."""
    if not isinstance(value, tuple) or not fits_side(len(value)):
        return False
    first = value[0]
    return isinstance(first, tuple) and fits_side(len(first)) and fits_vectors(width, len(first), value)


def times_vector(width, matrix, vector):
    """Return the vector of the dot products of the rows with the vector."""
    return tuple([dot(width, row, vector) for row in matrix])


def times_matrix(width, first, second):
    """Return the matrix that does the second matrix first."""
    columns = list(zip(*second))
    return tuple([times_vector(width, columns, row) for row in first])
