"""More programs for the tests: some that are made for one purpose, and many small ones of all shapes."""
from tests import brute, examples

# Three statements nested, in all orders, with empty blocks and empty bodies beside them.
NESTED = (2, ("g",), (
    ("deep", ("a",), ("u",), ("u",), (
        ("repeat", (("repeat", (("repeat", ()),)), ("input", "u"))),
        ("choose", (
            (("choose", ((), (("choose", ((), (("set", "u", (1, 1, 1, 0)),), ())),), ())), ("set", "g", (1, 0, 0, 1))),
            (("repeat", (("choose", ((("input", "u"),), (("call", ("a",), "deep", ((0, 0, 1, 1),)),))),)),),
            (),
            (("set", "a", (0, 1, 1, 0)), ("set", "a", (3, 0, 1, 0))),
        )),
    )),
    ("empty", (), (), (), ()),
    ("main", (), ("x",), (), (
        ("repeat", ()),
        ("choose", ((), ())),
        ("call", ("x",), "deep", ((1, 0, 1),)),
        ("call", (), "empty", ()),
    )),
))
# Procedures that call the next one twice.
CHAIN = (16, (), tuple(
    (name, ("a",), (), ("a",), (("call", ("a",), later, ((0, 1),)), ("call", ("a",), later, ((1, 1),))))
    for name, later in zip("abcd", "bcde")
) + (
    ("e", ("a",), (), ("a",), (("choose", ((), (("set", "a", (0, 3)),))),)),
    ("main", (), ("x",), (), (("input", "x"), ("call", ("x",), "a", ((0, 1),)), ("call", ("x",), "a", ((0, 5),)))),
))
# A procedure that calls itself twice, so that a piece of it can be used twice by the next one.
DOUBLE = (8, ("n",), (
    ("f", (), (), (), (("choose", ((("set", "n", (1, 1)),), (("call", (), "f", ()), ("call", (), "f", ())))),)),
    ("main", (), ("x",), (), (("call", (), "f", ()), ("set", "x", (0, 1, 0)))),
))
# Procedures that never return and procedures that are never called.
ENDLESS = (3, ("g",), (
    ("idle", ("a",), ("u",), ("a", "u"), (("set", "u", (1, 1, 3, 0)), ("choose", ((), (("set", "a", (2, 0, 2, 0)),))))),
    ("lost", ("a",), (), ("a",), (("repeat", (("set", "g", (1, 1, 0)),)), ("call", ("a",), "lost", ((0, 1, 2),)))),
    ("main", (), ("x",), (), (
        ("input", "x"),
        ("choose", (
            (("call", ("x",), "lost", ((5, 0, 4),)), ("set", "x", (1, 0, 0))),
            (("set", "g", (2, 0, 6)), ("call", ("x",), "never", ((1, 1, 1),))),
            (("set", "g", (0, 0, 2)),),
        )),
    )),
    ("never", ("a",), (), ("a",), (("call", ("a",), "lost", ((0, 0, 1),)),)),
))
# Two results, targets that are globals, and targets that the callee's globals would give another value.
SWAPS = (2, ("g", "h"), (
    ("both", ("a",), ("u",), ("u", "a"), (
        ("set", "u", (1, 1, 0, 1, 0)), ("set", "g", (0, 0, 1, 0, 0)), ("set", "h", (2, 0, 0, 1, 0)),
        ("choose", ((), (("call", ("a", "g"), "both", ((0, 0, 1, 1, 0),)),))),
    )),
    ("main", (), ("x",), (), (
        ("input", "x"),
        ("call", ("g", "x"), "both", ((0, 0, 0, 1),)),
        ("call", ("h", "g"), "both", ((1, 1, 0, 0),)),
        ("repeat", (("call", ("x", "h"), "both", ((0, 0, 1, 3),)),)),
    )),
))
# Twelve statements in a row over wide words.
WIDE = (16, ("g",), (
    ("f", ("a", "b"), ("u",), ("u",), (
        ("set", "u", (7, 3, 65535, 2, 0)), ("set", "a", (0, 0, 4096, 0, 513)), ("set", "g", (9, 1, 0, 2, 0)),
        ("set", "b", (0, 0, 1, 1, 1)), ("choose", ((), (("set", "g", (0, 5, 0, 0, 32768)),))),
    )),
    ("main", (), ("x", "y", "z"), (), (
        ("input", "x"), ("set", "y", (0, 0, 640, 0, 0)), ("set", "z", (1, 0, 1, 1, 0)), ("set", "x", (0, 0, 3, 0, 2)),
        ("call", ("y",), "f", ((0, 0, 1, 0, 0), (12, 0, 0, 1, 0))), ("set", "z", (0, 0, 0, 256, 1)),
        ("set", "x", (40000, 0, 8, 0, 0)), ("repeat", (("set", "y", (0, 0, 0, 9, 0)),)), ("set", "z", (0, 1, 1, 1, 1)),
        ("input", "y"), ("call", ("g",), "f", ((0, 0, 2, 0, 0), (0, 0, 0, 0, 4))), ("set", "x", (0, 0, 0, 16, 48)),
    )),
))


def sixteen_ways(rows):
    """A choose of chooses in which each way gives x another one of the sixteen rows."""
    ways = [(("set", "x", row),) for row in rows]
    return "choose", tuple((("choose", tuple(ways[start:start + 4])),) for start in range(0, 16, 4))


# What is found first are multiples of high powers of two, so the modules grow as often as is possible.
POWERS = [0] + [2 ** k for k in reversed(range(16))]
GROWING = (16, (), (
    ("f", ("x",), (), ("x",), (sixteen_ways([(word, 1) for word in POWERS[:16]]),)),
    ("main", (), ("x",), (), (
        sixteen_ways([(word, 0) for word in POWERS[:16]]),
        ("call", ("x",), "f", ((0, 1),)), ("call", ("x",), "f", ((0, 3),)),
    )),
))
# The same for the entries of a procedure.
CALLS = (16, (), (
    ("f", ("a", "b"), (), ("b",), (("set", "b", (0, 3, 1)),)),
    ("main", (), ("x",), (), tuple(
        ("call", ("x",), "f", rows)
        for word in POWERS for rows in (((word, 0), (0, 0)), ((0, 0), (word, 0)), ((word, 1), (0, 5)))
    )),
))
SPECIAL = (NESTED, CHAIN, DOUBLE, ENDLESS, SWAPS, WIDE, GROWING, CALLS)
KNOWN = examples.ALL + SPECIAL


class Maker:
    """Makes a program with procedures and statements by chance, the same for the same number."""

    def __init__(self, number, width, most):
        self.source = brute.seeded(number)
        self.width = width
        self.left = most
        self.shared = ("g", "h")[:self.source.choice((0, 0, 1, 1, 2))]
        self.heads = {}
        for name in ("main", "p", "q")[:self.source.randint(1, 3)]:
            self.heads[name] = self.head(name)

    def head(self, name):
        """The parameters, locals and results of a procedure."""
        room = 3 - len(self.shared)
        many = 0 if name == "main" else self.source.randint(0, min(room, 2))
        parameters = ("a", "b")[:many]
        own = ("u", "v")[:self.source.randint(0, min(room - many, 2))]
        results = self.some(parameters + own, 0 if name == "main" else 2)
        return parameters, own, results

    def some(self, values, most):
        many = self.source.randint(0, min(most, len(values)))
        return tuple(self.source.sample(values, many))

    def row(self, variables):
        words = (0, 0, 0, 1, 1, 2, 3, 2 ** self.width - 1, 2 ** (self.width - 1))
        return tuple(self.source.choice(words) % 2 ** self.width for _ in range(1 + len(variables)))

    def block(self, variables, depth, most):
        found = []
        while self.left > 0 and len(found) < most and (variables or depth < 3):
            self.left -= 1
            found.append(self.statement(variables, depth))
        return tuple(found)

    def statement(self, variables, depth):
        kind = self.source.choice(("set", "set", "set", "input", "call", "call", "choose", "repeat"))
        callees = [name for name in self.heads if name != "main" and len(self.heads[name][2]) <= len(variables)]
        if kind in ("set", "input") and variables:
            variable = self.source.choice(variables)
            return (kind, variable, self.row(variables)) if kind == "set" else (kind, variable)
        if kind == "call" and callees:
            name = self.source.choice(callees)
            parameters, _, results = self.heads[name]
            targets = tuple(self.source.sample(variables, len(results)))
            return kind, targets, name, tuple(self.row(variables) for _ in parameters)
        if depth == 3:
            return ("set", variables[0], self.row(variables))
        if kind == "repeat":
            return kind, self.block(variables, depth + 1, 2)
        return "choose", tuple(self.block(variables, depth + 1, 2) for _ in range(self.source.randint(2, 3)))

    def program(self):
        procedures = []
        for name, (parameters, own, results) in self.heads.items():
            body = self.block(self.shared + parameters + own, 0, self.source.randint(1, 4))
            procedures.append((name, parameters, own, results, body))
        return self.width, self.shared, tuple(sorted(procedures))


def some_programs(many, width, most=9, start=0):
    """So many programs of all shapes, with at most so many statements."""
    return [Maker(1000 * width + number, width, most).program() for number in range(start, start + many)]
