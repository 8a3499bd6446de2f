"""Row reduction modulo a power of two.

The functions of this file check nothing, and they take vectors of any one length, also of more than 40 entries.
"""
from wordlaws.base.words import inverse, multiplied


def pivot_column(vector):
    """Return the column of the first entry that is not 0, or -1 if all are 0."""
    for column, entry in enumerate(vector):
        if entry != 0:
            return column
    return -1


def unit(length, column):
    """Return the vector with 1 in the column and 0 elsewhere."""
    return tuple([1 if column == other else 0 for other in range(length)])


def less_multiple(width, vector, row, factor):
    """Return the vector minus the multiple of the row."""
    mask = (1 << width) - 1
    return tuple([(x - y * factor) & mask for x, y in zip(vector, row)])


def reduced(width, basis, vector):
    """Return the remainder of the vector.

    The rows need not be a whole basis: it is enough that their pivots are powers of two in ascending columns.
    """
    rest = vector
    for row in basis:
        column = pivot_column(row)
        if rest[column] >= row[column]:
            rest = less_multiple(width, rest, row, rest[column] // row[column])
    return rest


def without_pivot(width, row):
    """Return the least multiple of the row, by a power of two, in which the entry of its pivot is 0."""
    return multiplied(width, row, (1 << width) // row[pivot_column(row)])


def with_plain_pivot(width, vector, column):
    """Return the multiple of the vector by a word with an inverse whose pivot, in this column, is a power of two."""
    pivot = vector[column]
    odd = pivot // (pivot & -pivot)
    if odd == 1:
        return vector
    return multiplied(width, vector, inverse(width, odd))


def insert(width, rows, vector):
    """Add the vector to the span of the rows, and return whether the span has grown.

    The rows are a dict from the columns of their pivots. Whenever one is put there, what it becomes without its pivot
    is inserted as well, unless its pivot is 1, where that is zero: so a vector is in the span exactly if the rows
    reduce it to zero.
    """
    grown = False
    pending = [vector]
    while pending:
        rest = pending.pop()
        column = pivot_column(rest)
        if column < 0:
            continue
        held = rows.get(column)
        if held is None or rest[column] & -rest[column] < held[column]:
            grown = True
            rows[column] = with_plain_pivot(width, rest, column)
            if rows[column][column] > 1:
                pending.append(without_pivot(width, rows[column]))
            rest = held
        if rest is not None:
            pending.append(less_multiple(width, rest, rows[column], rest[column] // rows[column][column]))
    return grown


def echelon(width, vectors):
    """Return the basis of the span of the vectors."""
    rows = {}
    for vector in vectors:
        insert(width, rows, vector)
    return settled(width, rows)


def settled(width, rows):
    """Return the basis of the span of the rows, a dict that was filled by `insert`."""
    basis = ()
    for column in sorted(list(rows), reverse=True):
        basis = (reduced(width, basis, rows[column]),) + basis
    return basis


def growing(width, rows, vectors):
    """Insert the vectors into the rows one after another, and return the indices of those with which the span grew."""
    found = []
    for index, vector in enumerate(vectors):
        if insert(width, rows, vector):
            found.append(index)
    return found


def few_spanning(width, vectors):
    """Return the indices of some of the vectors with the same span, at most as many as the vectors have entries."""
    some = growing(width, {}, vectors)
    doubled = {}
    for index in some:
        insert(width, doubled, multiplied(width, vectors[index], 2))
    # By the lemma of Nakayama, vectors that span the module together with its double span it alone.
    return [some[place] for place in growing(width, doubled, [vectors[index] for index in some])]


def kernel(width, size, vectors):
    """Return the basis of all vectors of this size whose dot products with the given ones are 0."""
    many = len(vectors)
    # Each row has the products of a unit vector in front of it; where all products are 0, the rest is in the kernel.
    marked = [tuple([vector[column] for vector in vectors]) + unit(size, column) for column in range(size)]
    return tuple([row[many:] for row in echelon(width, marked) if pivot_column(row) >= many])
