"""Calls with arguments that are none of the kind, one and several at a time."""
import copy
import itertools

from tests import brute
from wordlaws.errors import InvalidBasis, InvalidNumber, InvalidVector, InvalidWidth


def nested(depth, kernel):
    """Tuples within tuples, so many deep."""
    for _ in range(depth):
        kernel = (kernel,)
    return kernel


def few_junk():
    """Some values of each kind, made anew by each call."""
    return [
        True, False, None, "", "1", "main", [], [1], [(1, 1)], {}, {1: 1}, {(0,): [1]}, (), (1,), (1, 1), ((1, 1),),
        (True, 1), (1, None), ((1, True),), ((0, 0),), nested(12, 1), nested(12, True),
        -1, 0, 1, 2, 3, 4, 5, 16, 17, 40, 41, 10 ** 39, -10 ** 39,
    ]


def much_junk():
    """More values, for one argument at a time."""
    lists = [1]
    for _ in range(11):
        lists = [lists]
    dicts = {}
    for _ in range(11):
        dicts = {"a": dicts}
    return few_junk() + [
        "a" * 40, " ", "0", "()", "(1, 1)", "~" * 40, "set", (0,), (0, 0, 0), (1, 2, 3), (16, 0), (15, 16), (-1, 0),
        (0, 10 ** 39), (-10 ** 39, 0), (1, 1, 1, 1), (1,) * 40, (1,) * 41, ("1", "1"), ([1], [1]), ((1, 1), (1, 1)),
        ((1, 1), [1, 1]), ((2, 1), (0, 8)), ((2, 1), (0, 8), True), ((0, 8), (2, 1)), ((1, 1), 1), ((1, 1), (1,)),
        ((), ()), ((),), ([],), ({},), (None,), (False, False), lists, dicts, (lists, dicts), nested(11, ()),
        nested(11, []), 6, 7, 8, 15, 18, 42, 255, 256, 65535, 65536, 9999999999999999999999999999999999999999,
    ]


def look(value):
    """What tells True from 1 and a list from a tuple."""
    return repr(value)


def outcome(function, args, named):
    """The result and no error, or no result and the error."""
    try:
        return function(*args, **named), None
    except Exception as error:
        return None, error


def check_call(case, function, checks, args, named=None, right=None):
    """Check the error of one call against the first of the checks that does not hold, or that there is none.

    Where there is none, the result is what `right` says.
    """
    named = named or {}
    before = look((args, named))
    expected = next((wrong for wrong in (check(args) for check in checks) if wrong), None)
    result, error = outcome(function, args, named)
    case.assertEqual(look((args, named)), before)
    told = f"{function.__name__}{before[:3000]}: {error!r}"
    if expected is None:
        case.assertIsNone(error, told)
        again, none = outcome(function, copy.deepcopy(args), copy.deepcopy(named))
        case.assertEqual((look(result), none), (look(again), None), told)
        if right:
            case.assertIs(result, right(*args), told)
        return
    case.assertIs(type(error), expected[0], told)
    if len(expected) > 2:
        case.assertIs(getattr(error, expected[1]), expected[2], told)


def check_wrong(case, function, valid, checks, right=None):
    """Put junk in the place of one, of two and of all of the valid arguments."""
    many = len(valid)
    for place in range(many):
        for junk in much_junk():
            check_call(case, function, checks, valid[:place] + (junk,) + valid[place + 1:], right=right)
    for first, second in itertools.combinations(range(many), 2):
        for one, two in itertools.product(few_junk(), few_junk()):
            args = list(valid)
            args[first], args[second] = one, two
            check_call(case, function, checks, tuple(args), right=right)
    for shift in range(3):
        values = few_junk()
        for start in range(len(values)):
            args = tuple(values[(start + place * (7 + shift)) % len(values)] for place in range(many))
            check_call(case, function, checks, args, right=right)


def check_is(case, function, valid, checks, right):
    """Like check_wrong, for a function whose last argument may be anything: it returns what `right` says."""
    case.assertIs(right(*valid), True)
    check_wrong(case, function, valid, checks, right)


def width_at(place):
    return lambda args: None if brute.is_width(args[place]) else (InvalidWidth,)


def size_at(place):
    return lambda args: None if brute.is_size(args[place]) else (InvalidNumber, "value", args[place])


def word_at(place):
    return lambda args: None if brute.is_word(args[0], args[place]) else (InvalidNumber, "value", args[place])


def vector_at(place):
    return lambda args: None if brute.is_vector(args[0], args[1], args[place]) else (InvalidVector,)


def vectors_at(place):
    return lambda args: None if brute.are_vectors(args[0], args[1], args[place]) else (InvalidVector,)


def basis_at(place):
    return lambda args: None if is_basis(args[0], args[1], args[place]) else (InvalidBasis,)


KNOWN = {}


def is_basis(width, size, value):
    """Like the search, which is slow, but only once for each value."""
    key = look((width, size, value))
    if key not in KNOWN:
        KNOWN[key] = brute.is_basis(width, size, value)
    return KNOWN[key]
