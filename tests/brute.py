"""What the document says about words, vectors and modules, in the plainest words: by search, and slowly."""
import itertools
import random


def is_int(value, low, high):
    return type(value) is int and low <= value <= high


def is_width(value):
    return is_int(value, 1, 16)


def is_size(value):
    return is_int(value, 1, 40)


def is_word(width, value):
    return is_int(value, 0, 2 ** width - 1)


def is_vector(width, size, value):
    return type(value) is tuple and len(value) == size and all(is_word(width, entry) for entry in value)


def are_vectors(width, size, value):
    return type(value) is tuple and all(is_vector(width, size, entry) for entry in value)


def is_any_vector(width, value):
    return type(value) is tuple and is_size(len(value)) and is_vector(width, len(value), value)


def plus(width, first, second):
    return tuple((x + y) % 2 ** width for x, y in zip(first, second))


def times(width, vector, factor):
    return tuple(x * factor % 2 ** width for x in vector)


def dot(width, first, second):
    return sum(x * y for x, y in zip(first, second)) % 2 ** width


def mixed(width, size, vectors, words):
    """The sum of the multiples of the vectors by the words."""
    total = (0,) * size
    for vector, word in zip(vectors, words):
        total = plus(width, total, times(width, vector, word))
    return total


def all_vectors(width, size):
    return list(itertools.product(range(2 ** width), repeat=size))


def span(width, size, vectors):
    """The span as a frozen set of vectors."""
    found = {(0,) * size}
    for vector in vectors:
        if vector not in found:
            multiples = [times(width, vector, factor) for factor in range(2 ** width)]
            found = {plus(width, old, new) for old in found for new in multiples}
    return frozenset(found)


def pivot(vector):
    """The column and the pivot of a vector that is not zero."""
    return next((column, entry) for column, entry in enumerate(vector) if entry)


def is_basis(width, size, value):
    """The four properties of [2.2], one after another, with searches instead of reductions."""
    if not are_vectors(width, size, value) or any(not any(vector) for vector in value):
        return False
    pivots = [pivot(vector) for vector in value]
    if any(not early[0] < late[0] for early, late in zip(pivots, pivots[1:])):
        return False
    if any(entry not in [2 ** k for k in range(width)] for _, entry in pivots):
        return False
    for late, (column, entry) in enumerate(pivots):
        if any(value[early][column] >= entry for early in range(late)):
            return False
    return all(
        times(width, vector, 2 ** width // entry) in span(width, size, value[index + 1:])
        for index, (vector, (_, entry)) in enumerate(zip(value, pivots))
        if entry > 1
    )


def seeded(number):
    """A source of numbers that are the same in every run of the tests."""
    return random.Random(number)


def some_vector(source, width, size):
    """A vector whose entries are divisible by many different powers of two."""
    top = 2 ** width
    return tuple(source.randrange(top) * 2 ** source.randrange(width + 1) % top for _ in range(size))


def some_vectors(source, width, size, many):
    return tuple(some_vector(source, width, size) for _ in range(many))
