"""Monomials, the powers of states, and what steps do to forms. The functions of this file check nothing."""
from wordlaws.modules.echelon import unit


def all_monomials(count, degree):
    """Return all monomials of so many variables, ordered by their length, then ascending."""
    found, layer = [()], [()]
    for _ in range(degree):
        layer = [
            monomial + (number,)
            for monomial in layer for number in range(monomial[-1] if monomial else 1, count + 1)
        ]
        found.extend(layer)
    return tuple(found)


def powers_of(width, monomials, state):
    """Return the vector of the values of the monomials on the state."""
    mask = (1 << width) - 1
    powers = []
    for monomial in monomials:
        product = 1
        for number in monomial:
            product = product * state[number] & mask
        powers.append(product)
    return tuple(powers)


def some_words(width, degree):
    """Return words such that the powers behind an input of one of them span those behind an input of any word.

    This holds because the value of a polynomial of this degree at any integer is a sum of multiples, by integers, of
    its values at 0, 1, .., degree.
    """
    return tuple(range(min(degree, (1 << width) - 1) + 1))


def substitutions(width, degree, size, node):
    """Return the list of the matrices that take the powers of states of this size before a step to those behind it.

    At an input the steps with some words are enough. The list is empty if the step keeps the state.
    """
    rows = []
    if node.kind == "set":
        rows.append(node.row)
    elif node.kind == "input":
        rows.extend([(word,) + (0,) * (size - 1) for word in some_words(width, degree)])
    monomials = all_monomials(size - 1, degree)
    return [substitution(width, monomials, node.column, row) for row in rows]


def substitution(width, monomials, column, row):
    """Return the forms that one gets from the monomials by putting the row in the place of the variable."""
    forms = []
    for monomial in monomials:
        product = {(): 1}
        for number in monomial:
            product = times_row(width, product, row if number == column else unit(len(row), number))
        forms.append(tuple([product.get(other, 0) for other in monomials]))
    return tuple(forms)


def times_row(width, product, row):
    """Return the product of a polynomial, a dict from monomials to words, and a row."""
    mask = (1 << width) - 1
    found = {}
    for monomial, word in product.items():
        for number, entry in enumerate(row):
            if entry != 0:
                key = tuple(sorted(monomial + (number,))) if number > 0 else monomial
                found[key] = (found.get(key, 0) + word * entry) & mask
    return found
