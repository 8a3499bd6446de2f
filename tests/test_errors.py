"""[0.7], [0.8]: the errors."""
import unittest

from wordlaws import errors

MESSAGES = (
    "InvalidWidth", "InvalidVector", "InvalidBasis", "InvalidMatrix", "InvalidProgram", "InvalidRow", "InvalidRun",
    "InvalidTrail", "InvalidChange", "InvalidEdit", "ParseError", "InvalidCommand",
)
VALUES = {
    "UnknownName": (KeyError, "name"),
    "UnknownPoint": (LookupError, "point"),
    "InvalidNumber": (IndexError, "value"),
    "TooMany": (OverflowError, "limit"),
    "NotInvariant": (ArithmeticError, "trail"),
    "NothingToUndo": (RuntimeError, "count"),
}


class Messages(unittest.TestCase):
    def test_base(self):
        self.assertEqual(errors.WordsError.__bases__, (ValueError,))
        self.assertEqual(str(errors.WordsError("what is wrong")), "what is wrong")

    def test_derived(self):
        for name in MESSAGES:
            error = getattr(errors, name)
            self.assertEqual(error.__bases__, (errors.WordsError,))
            self.assertEqual(error.__name__, name)
            self.assertEqual(str(error("what is wrong")), "what is wrong")
            self.assertEqual(error("what is wrong").args, ("what is wrong",))

    def test_none_is_another(self):
        for name in MESSAGES:
            for other in MESSAGES:
                self.assertEqual(issubclass(getattr(errors, name), getattr(errors, other)), name == other)

    def test_raised_and_caught(self):
        for name in MESSAGES:
            with self.assertRaises(ValueError):
                raise getattr(errors, name)("what is wrong")


class Values(unittest.TestCase):
    def test_bases(self):
        for name, (base, _) in VALUES.items():
            self.assertEqual(getattr(errors, name).__bases__, (base,))
            self.assertFalse(issubclass(getattr(errors, name), errors.WordsError))

    def test_none_is_another(self):
        for name in VALUES:
            for other in VALUES:
                self.assertEqual(issubclass(getattr(errors, name), getattr(errors, other)), name == other)

    def test_value(self):
        for name, (base, attribute) in VALUES.items():
            for value in (0, True, None, "main", (), ("main", (0,)), [1, [2]], {"a": [1]}, 10 ** 39):
                error = getattr(errors, name)(value)
                self.assertIs(getattr(error, attribute), value)
                self.assertEqual(list(vars(error)), [attribute])
                with self.assertRaises(base):
                    raise error

    def test_one_value(self):
        for name in VALUES:
            for args in ((), (1, 2)):
                with self.assertRaises(TypeError):
                    getattr(errors, name)(*args)


class Whole(unittest.TestCase):
    def test_all_classes(self):
        found = [name for name, value in vars(errors).items() if isinstance(value, type)]
        self.assertEqual(sorted(found), sorted(("WordsError",) + MESSAGES + tuple(VALUES)))
