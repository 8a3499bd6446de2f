"""Bases of modules: for each module exactly one."""
from wordlaws.base.words import fits_vectors, level, need_size, need_vector, need_vectors, need_width
from wordlaws.errors import InvalidBasis
from wordlaws.modules.echelon import echelon, few_spanning, pivot_column, reduced, unit, without_pivot


def basis_of(width, size, vectors):
    """Return the basis of the span of the vectors."""
    need_width(width)
    need_size(size)
    need_vectors(width, size, vectors)
    return echelon(width, vectors)


def is_basis(width, size, value):
    """Return whether the value is a basis."""
    need_width(width)
    need_size(size)
    return fits_basis(width, size, value)


def remainder_of(width, size, basis, vector):
    """Return what differs from the vector by a vector of the module and is less than each pivot in its column."""
    need_width(width)
    need_size(size)
    need_basis(width, size, basis)
    need_vector(width, size, vector)
    return reduced(width, basis, vector)


def contains(width, size, basis, vector):
    """Return whether the vector is in the module."""
    need_width(width)
    need_size(size)
    need_basis(width, size, basis)
    need_vector(width, size, vector)
    return spans(width, basis, vector)


def coordinates(width, size, vectors, vector):
    """Return words by which the multiples of the vectors have the vector as their sum, or None if there are none."""
    need_width(width)
    need_size(size)
    need_vectors(width, size, vectors)
    need_vector(width, size, vector)
    chosen = few_spanning(width, vectors)
    many = len(chosen)
    # Behind each chosen vector stands its own column; what is left there tells what has been subtracted.
    marked = [vectors[index] + unit(many, place) for place, index in enumerate(chosen)]
    rest = reduced(width, echelon(width, marked), vector + (0,) * many)
    if pivot_column(rest[:size]) >= 0:
        return None
    mask = (1 << width) - 1
    words = [0] * len(vectors)
    for index, left in zip(chosen, rest[size:]):
        words[index] = -left & mask
    return tuple(words)


def joined_basis(width, size, *bases):
    """Return the basis of the span of all vectors of the bases."""
    need_width(width)
    need_size(size)
    for basis in bases:
        need_basis(width, size, basis)
    return echelon(width, [vector for basis in bases for vector in basis])


def member_count(width, size, basis):
    """Return the number of vectors of the module."""
    need_width(width)
    need_size(size)
    need_basis(width, size, basis)
    return count_members(width, basis)


def need_basis(width, size, value):
    """Raise InvalidBasis if the value is not a basis of the size."""
    if not fits_basis(width, size, value):
        raise InvalidBasis(f"not a basis of vectors of size {size}")


def fits_basis(width, size, value):
    """Return whether the value is a basis."""
    if not fits_vectors(width, size, value):
        return False
    columns = [pivot_column(vector) for vector in value]
    # A vector of zeros has the column -1, so it is found here, too.
    ascending = all([before < column for before, column in zip([-1] + columns, columns)])
    return ascending and has_plain_pivots(value, columns) and has_closure(width, value)


def has_plain_pivots(vectors, columns):
    """Return whether each pivot is a power of two and greater than the entries above it."""
    for index, column in enumerate(columns):
        pivot = vectors[index][column]
        if pivot & -pivot != pivot or any([vector[column] >= pivot for vector in vectors[:index]]):
            return False
    return True


def has_closure(width, vectors):
    """Return whether each vector, multiplied so that its pivot becomes 0, is in the span of the later ones."""
    return all([
        spans(width, vectors[index + 1:], without_pivot(width, vector)) for index, vector in enumerate(vectors)
    ])


def spans(width, basis, vector):
    """Return whether the vector is in the module."""
    return pivot_column(reduced(width, basis, vector)) < 0


def count_members(width, basis):
    """Return the number of vectors of the module."""
    return 1 << sum([width - level(width, row[pivot_column(row)]) for row in basis])
