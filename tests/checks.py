"""Calls with wrong programs, names, points, rows, runs and trails, one and several at a time."""
import itertools

from tests import brute, forms, plain
from tests.wrong import check_call, much_junk
from wordlaws.errors import InvalidProgram, InvalidRow, InvalidRun, InvalidTrail, UnknownName, UnknownPoint


def thin_junk():
    """A few values of all kinds, made anew by each call."""
    return [True, None, "", "main", [], {}, (), (1,), (True,), ((0, 1),), ((), ((),)), ("main", (0,)), -1, 0, 1, 10 ** 39]


def point_junk():
    """Values that are nearly points, in programs that have a procedure f or main."""
    return [
        ("main", (0,)), ["main", (0,)], ("main", [0]), ("main", (0,), 0), ("main",), (("main",), (0,)), ("Main", (0,)),
        ("main", (False,)), ("main", (True,)), ("main", (0, 0)), ("main", ()), ("main", (-1,)), ("main", (1,)),
        ("main", ("0",)), ("main", 0), ("f", (0,)), ("f", (1,)), ("f", (0, 1, 2)), ("f", (0, True, 2)), ("", (0,)),
        ("main", (10 ** 39,)), ("main", ((0,),)), ("main", (0, 0, 0, 0, 0, 0, 0, 0, 0)), (None, (0,)), ([], (0,)),
        ("main", {}), ("main", ({},)), ("f", (0, 2, 0)), ("f", (0, 1, 3)), ("f", (0, -1, 0)), ("f", (2,)), "main",
    ]


def trail_junk():
    """Values that are nearly trails or ways."""
    return [
        ((), ()), ((), ((),)), ((), [()]), ([], ((),)), ((), ((),), ()), ((),), [(), ((),)], ((), ([],)), ((), ((0,),)),
        ((), ((True,),)), ((), ((), ())), ((), (0,)), ((), 0), ((), (None,)), ((), {(): ()}), ((("main",),), ((),)),
        ((("main", ()),), ((),)), ((("f", (0, 0)),), ((0,),)), ((("f", (0, 0)),), ((False,),)), (("f", (0, 0)), ((0,),)),
        ((["f", (0, 0)],), ((0,),)), ((("f", [0, 0]),), ((0,),)), ((("f", (0, 0), 0),), ((0,),)), ((("f", (0,)),), ((),)),
        ((("f", (0, 0, 0)),), ((),)), ((("f", (1, 0, 0, 0)),), ((),)), ((("g", (0, 0)),), ((),)), (((0, (0, 0)),), ((),)),
        ((([], (0, 0)),), ((),)), ((("f", (0, 0)),), ((-1,),)), ((("f", (0, 0)),), ((1,),)), ((("f", None),), ((),)),
        ((("f", (0, 0)),), ((10 ** 39,),)), ((), (0, 0)), ((("f", (0, 0)),), (1, 0, 0, 0)),
    ]


def check_all(case, function, valid, checks, extra=(), right=None):
    """Put junk in the place of one, of two and of all of the valid arguments."""
    many = len(valid)
    for place in range(many):
        for junk in much_junk() + list(extra):
            check_call(case, function, checks, valid[:place] + (junk,) + valid[place + 1:], right=right)
    for first, second in itertools.combinations(range(many), 2):
        for one, two in itertools.product(thin_junk(), thin_junk()):
            args = list(valid)
            args[first], args[second] = one, two
            check_call(case, function, checks, tuple(args), right=right)
    values = thin_junk()
    for start, shift in itertools.product(range(len(values)), (5, 7)):
        args = tuple(values[(start + place * shift) % len(values)] for place in range(many))
        check_call(case, function, checks, args, right=right)


def is_point(program, value):
    if type(value) is not tuple or len(value) != 2 or type(value[0]) is not str or type(value[1]) is not tuple:
        return False
    return all(type(part) is int for part in value[1]) and value in plain.points(program)


def is_row(program, name, value):
    return brute.is_vector(program[0], plain.state_size(program, name), value)


def is_entry(program, name, value):
    return brute.is_vector(program[0], plain.entry_size(program, name), value) and value[0] == 1


def program_at(place):
    return lambda args: None if forms.is_program(args[place]) else (InvalidProgram,)


def name_at(place):
    """The program is the first argument."""
    def check(args):
        return None if args[place] in plain.names(args[0]) else (UnknownName, "name", args[place])
    return check


def point_at(place):
    return lambda args: None if is_point(args[0], args[place]) else (UnknownPoint, "point", args[place])


def row_at(place):
    """The point is the argument before."""
    return lambda args: None if is_row(args[0], args[place - 1][0], args[place]) else (InvalidRow,)


def run_at(place):
    return lambda args: None if plain.configuration(args[0], args[place]) else (InvalidRun,)


def trail_at(place):
    return lambda args: None if plain.is_trail(args[0], args[place]) else (InvalidTrail,)


def changed_parts(value, parts):
    """The value with one part, at any depth, replaced by each of the given ones, left out, or put in once more."""
    if not isinstance(value, tuple):
        return
    for place, part in enumerate(value):
        head, tail = value[:place], value[place + 1:]
        for new in parts:
            yield head + (new,) + tail
            yield head + (new, part) + tail
        yield head + tail
        yield head + (part, part) + tail
        if isinstance(part, int):
            for new in (part + 1, part - 1, part + 2, -part, bool(part), str(part), (part,)):
                yield head + (new,) + tail
        if isinstance(part, tuple):
            yield head + (list(part),) + tail
        for new in changed_parts(part, parts):
            yield head + (new,) + tail
    for new in parts:
        yield value + (new,)
    yield list(value)
