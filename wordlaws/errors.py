"""All errors of the package."""


class WordsError(ValueError):
    """The base of the errors that take a message."""


class InvalidWidth(WordsError):
    """A value is not a width."""


class InvalidVector(WordsError):
    """A value is not a vector, or not the tuple of vectors or words that is asked for."""


class InvalidBasis(WordsError):
    """A value is not a basis, or not a module, of the size that is asked for."""


class InvalidMatrix(WordsError):
    """A value is not a matrix, or matrices do not fit."""


class InvalidProgram(WordsError):
    """A value is not a program."""


class InvalidRow(WordsError):
    """A value is not a row of the procedure."""


class InvalidRun(WordsError):
    """A value is not a run of the program."""


class InvalidTrail(WordsError):
    """A value is not a trail or a way of the program."""


class InvalidChange(WordsError):
    """A program cannot be changed in this way."""


class InvalidEdit(WordsError):
    """A value is not an edit, or an edit cannot be done."""


class ParseError(WordsError):
    """A value is not a text of the format."""


class InvalidCommand(WordsError):
    """A value is not a command of the shell."""


class UnknownName(KeyError):
    """There is nothing with this name."""

    def __init__(self, name):
        KeyError.__init__(self, name)
        self.name = name


class UnknownPoint(LookupError):
    """There is no such point."""

    def __init__(self, point):
        LookupError.__init__(self, point)
        self.point = point


class InvalidNumber(IndexError):
    """A value is not one of the numbers that are allowed in its place."""

    def __init__(self, value):
        IndexError.__init__(self, value)
        self.value = value


class TooMany(OverflowError):
    """Something has more parts than the limit allows."""

    def __init__(self, limit):
        OverflowError.__init__(self, limit)
        self.limit = limit


class NotInvariant(ArithmeticError):
    """Something does not hold on every run: on the run of this trail it does not."""

    def __init__(self, trail):
        ArithmeticError.__init__(self, trail)
        self.trail = trail


class NothingToUndo(RuntimeError):
    """Fewer steps can be undone than are asked for: only this many."""

    def __init__(self, count):
        RuntimeError.__init__(self, count)
        self.count = count
