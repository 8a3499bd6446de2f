"""Programs for the tests: those of the document, and some larger ones."""

P = (4, (), (("f", ("a",), (), ("a",), (("choose", ((), (("set", "a", (6, 1)), ("call", ("a",), "f", ((0, 1),))))),)), ("main", (), ("x",), (), (("call", ("x",), "f", ((0, 0),)),))))
Q = (8, (), (("main", (), ("x", "y"), (), (("input", "x"), ("set", "y", (0, 1, 0)), ("repeat", (("set", "x", (1, 1, 0)), ("set", "y", (1, 0, 1)))))),))
R = (4, ("g",), (("main", (), ("x",), (), (("repeat", (("set", "x", (1, 0, 2)),)), ("call", (), "stop", ()))), ("stop", (), (), (), (("set", "g", (3, 0)), ("call", (), "stop", ())))))

# Each kind of statement, three nested, calls in nested blocks, two results, a procedure and variables with one name.
S = (3, ("g", "h"), (
    ("longname", ("p", "longname"), (), ("longname", "p"), (
        ("choose", (
            (("repeat", (("choose", ((), (("call", ("g", "p"), "z", ((1, 2, 3, 4, 5),)),), (("input", "h"),))),)),),
            (("set", "p", (0, 0, 0, 7, 1)),),
            (),
            (("repeat", ()),),
        )),
    )),
    ("main", (), ("x", "set"), (), (
        ("call", ("x", "g"), "longname", ((0, 1, 0, 0, 0), (7, 0, 0, 0, 1))),
        ("repeat", (("call", ("set", "h"), "z", ((0, 0, 0, 1, 0),)), ("input", "set"))),
        ("call", (), "none", ()),
    )),
    ("none", (), (), (), ()),
    ("z", ("x",), ("y",), ("y", "x"), (("set", "y", (1, 0, 0, 1, 0)), ("call", (), "none", ()))),
))
ALL = (P, Q, R, S)
