"""Annihilators, intersections, and systems of equations."""
from wordlaws.base.words import fits_words, multiplied, need_size, need_vectors, need_width
from wordlaws.errors import InvalidVector
from wordlaws.modules.bases import need_basis
from wordlaws.modules.echelon import echelon, kernel


def annihilator(width, size, basis):
    """Return the basis of the annihilator of the module."""
    need_width(width)
    need_size(size)
    need_basis(width, size, basis)
    return kernel(width, size, basis)


def common_basis(width, size, *bases):
    """Return the basis of the intersection of the modules, which is the module of all vectors if there are none."""
    need_width(width)
    need_size(size)
    for basis in bases:
        need_basis(width, size, basis)
    return intersection(width, size, bases)


def solution(width, size, vectors, values):
    """Return a vector whose dot products with the vectors are the values, or None if there is none."""
    need_width(width)
    need_size(size)
    need_vectors(width, size, vectors)
    if not fits_words(width, len(vectors), values):
        raise InvalidVector("the values are a tuple of words, one for each of the vectors")
    return solved(width, size, vectors, values)


def solved(width, size, vectors, values):
    """Return a vector of this size whose dot products with the vectors are the values, or None if there is none."""
    # With its value in front, each vector must have the dot product 0 with the solution behind -1.
    marked = [(value,) + vector for value, vector in zip(values, vectors)]
    basis = kernel(width, size + 1, echelon(width, marked))
    if not basis or basis[0][0] != 1:
        return None
    return multiplied(width, basis[0][1:], -1)


def intersection(width, size, bases):
    """Return the basis of the vectors that are in all modules: what is annihilated by all of their annihilators."""
    equations = []
    for basis in bases:
        equations.extend(kernel(width, size, basis))
    return kernel(width, size, echelon(width, equations))
