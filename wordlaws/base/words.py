"""Widths, words and vectors, and the checks of arguments that are such.

A function called fits_.. tells whether a value has the form, without looking at its other arguments.
A function called need_.. raises the error that the document names for a value that does not.
"""
from wordlaws.errors import InvalidNumber, InvalidVector, InvalidWidth

MAX_WIDTH = 16
MAX_SIZE = 40


def is_width(value):
    """Return whether the value is a width."""
    return fits_bounds(value, 1, MAX_WIDTH)


def is_word(width, value):
    """Return whether the value is a word of the width."""
    need_width(width)
    return fits_word(width, value)


def is_vector(width, size, value):
    """Return whether the value is a vector of the size."""
    need_width(width)
    need_size(size)
    return fits_vector(width, size, value)


def vector_sum(width, size, *vectors):
    """Return the sum of the vectors."""
    need_width(width)
    need_size(size)
    need_vectors(width, size, vectors)
    total = (0,) * size
    for vector in vectors:
        total = added(width, total, vector)
    return total


def vector_multiple(width, vector, factor):
    """Return the multiple of the vector by the factor."""
    need_width(width)
    need_any_vector(width, vector)
    need_word(width, factor)
    return multiplied(width, vector, factor)


def dot_product(width, first, second):
    """Return the dot product of two vectors of one size."""
    need_width(width)
    need_any_vector(width, first)
    need_vector(width, len(first), second)
    return dot(width, first, second)


def word_level(width, word):
    """Return the level of the word."""
    need_width(width)
    need_word(width, word)
    return level(width, word)


def word_inverse(width, word):
    """Return the inverse of the word."""
    need_width(width)
    need_word(width, word)
    if level(width, word) > 0:
        raise InvalidNumber(word)
    return inverse(width, word)


def fits_bounds(value, low, high):
    """Return whether the value is an integer from low to high."""
    return isinstance(value, int) and not isinstance(value, bool) and low <= value <= high


def fits_size(value):
    """Return whether the value is a size."""
    return fits_bounds(value, 1, MAX_SIZE)


def fits_word(width, value):
    """Return whether the value is a word."""
    return fits_bounds(value, 0, (1 << width) - 1)


def fits_words(width, count, value):
    """Return whether the value is a tuple of this many words, which may be none."""
    return isinstance(value, tuple) and len(value) == count and all([fits_word(width, entry) for entry in value])


def fits_vector(width, size, value):
    """Return whether the value is a vector of the size."""
    return fits_words(width, size, value)


def fits_vectors(width, size, value):
    """Return whether the value is a tuple of vectors of the size."""
    return isinstance(value, tuple) and all([fits_vector(width, size, vector) for vector in value])


def need_width(value):
    """Raise InvalidWidth if the value is not a width."""
    if not is_width(value):
        raise InvalidWidth("a width is an integer from 1 to 16")


def need_size(value):
    """Raise InvalidNumber if the value is not a size."""
    if not fits_size(value):
        raise InvalidNumber(value)


def need_word(width, value):
    """Raise InvalidNumber if the value is not a word."""
    if not fits_word(width, value):
        raise InvalidNumber(value)


def need_vector(width, size, value):
    """Raise InvalidVector if the value is not a vector of the size."""
    if not fits_vector(width, size, value):
        raise InvalidVector(f"a vector of size {size} is a tuple of {size} words of width {width}")


def need_any_vector(width, value):
    """Raise InvalidVector if the value is not a vector of any size."""
    if not isinstance(value, tuple) or not fits_size(len(value)):
        raise InvalidVector("a vector is a tuple of 1 to 40 words")
    need_vector(width, len(value), value)


def need_vectors(width, size, value):
    """Raise InvalidVector if the value is not a tuple of vectors of the size."""
    if not isinstance(value, tuple):
        raise InvalidVector("vectors stand in a tuple")
    for vector in value:
        need_vector(width, size, vector)


def added(width, first, second):
    """Return the sum of two vectors of one length."""
    mask = (1 << width) - 1
    return tuple([(x + y) & mask for x, y in zip(first, second)])


def multiplied(width, vector, factor):
    """Return the multiple of the vector by an integer, which may be negative."""
    mask = (1 << width) - 1
    return tuple([x * factor & mask for x in vector])


def dot(width, first, second):
    """Return the dot product of two vectors of one length."""
    mask = (1 << width) - 1
    return sum([x * y for x, y in zip(first, second)]) & mask


def level(width, word):
    """Return the level of the word."""
    if word == 0:
        return width
    return (word & -word).bit_length() - 1


def inverse(width, word):
    """Return the inverse of an odd word."""
    mask = (1 << width) - 1
    found = 1
    # Each round doubles the number of low bits in which the product is 1.
    while word * found & mask != 1:
        found = found * (2 - word * found) & mask
    return found
