"""Modules as objects."""
from wordlaws.base.words import added, fits_size, multiplied, need_size, need_vector, need_vectors, need_width
from wordlaws.errors import InvalidBasis, TooMany
from wordlaws.modules.bases import count_members, spans
from wordlaws.modules.duals import intersection
from wordlaws.modules.echelon import echelon, kernel, pivot_column, unit


class Module:
    """The span of some vectors of one size. It does not change."""

    MOST = 4096

    def __init__(self, width, size, *vectors):
        need_width(width)
        need_size(size)
        need_vectors(width, size, vectors)
        self._width = width
        self._size = size
        self._basis = echelon(width, vectors)

    @property
    def width(self):
        """The width of the words."""
        return self._width

    @property
    def size(self):
        """The size of the vectors."""
        return self._size

    @property
    def basis(self):
        """The basis of the module."""
        return self._basis

    @classmethod
    def zero(cls, width, size):
        """Return the module of the zero vector."""
        return cls(width, size)

    @classmethod
    def whole(cls, width, size):
        """Return the module of all vectors."""
        need_width(width)
        need_size(size)
        units = [unit(size, column) for column in range(size)]
        return cls(width, size, *units)

    @staticmethod
    def is_size(value):
        """Return whether the value is a size."""
        return fits_size(value)

    def has(self, vector):
        """Return whether the vector is in the module."""
        need_vector(self._width, self._size, vector)
        return spans(self._width, self._basis, vector)

    def plus(self, *others):
        """Return the module that is spanned by all of them."""
        need_alike(self, others)
        vectors = list(self._basis)
        for other in others:
            vectors.extend(other.basis)
        return Module(self._width, self._size, *vectors)

    def common(self, *others):
        """Return the intersection of all of them."""
        need_alike(self, others)
        bases = [self._basis]
        for other in others:
            bases.append(other.basis)
        vectors = intersection(self._width, self._size, bases)
        return Module(self._width, self._size, *vectors)

    def dual(self):
        """Return the annihilator."""
        vectors = kernel(self._width, self._size, self._basis)
        return Module(self._width, self._size, *vectors)

    def within(self, other):
        """Return whether each vector of the module is in the other one."""
        need_alike(self, (other,))
        return all([spans(self._width, other.basis, vector) for vector in self._basis])

    def members(self):
        """Yield all vectors of the module in ascending order."""
        if count_members(self._width, self._basis) > self.MOST:
            raise TooMany(self.MOST)
        for vector in ascending_members(self._width, self._size, self._basis):
            yield vector

    def __contains__(self, vector):
        return self.has(vector)

    def __len__(self):
        return len(self._basis)

    def __eq__(self, value):
        return (
            isinstance(value, Module)
            and self._width == value._width
            and self._size == value._size
            and self._basis == value._basis
        )

    def __str__(self):
        return f"module of {count_members(self._width, self._basis)} vectors of size {self._size}"


def need_alike(module, others):
    """Raise InvalidBasis if one of the others is not a module of the same width and size."""
    for other in others:
        if not isinstance(other, Module) or other.width != module.width or other.size != module.size:
            raise InvalidBasis(f"not a module of vectors of size {module.size} and width {module.width}")


def ascending_members(width, size, basis):
    """Return the list of all vectors of the module in ascending order."""
    found = [(0,) * size]
    for row in basis:
        # Further multiples of the row differ from these by sums of multiples of later rows.
        many = (1 << width) // row[pivot_column(row)]
        multiples = [multiplied(width, row, factor) for factor in range(many)]
        found = [added(width, vector, multiple) for vector in found for multiple in multiples]
    return sorted(found)
