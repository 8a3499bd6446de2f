"""Edits: changes of programs that are objects, and that can be put one after another and undone."""
from wordlaws.code.charts import charted, fits_point, node_at
from wordlaws.code.programs import fits_procedure, is_program, need_program, procedure_called
from wordlaws.code.rebuilding import rebuilt
from wordlaws.errors import InvalidEdit


class Edit:
    """The base class of all edits. An edit of this very class cannot be done."""

    def applied(self, program):
        """Return the program after the edit."""
        need_program(program)
        raise InvalidEdit("it is not said what this edit does")

    def inverse(self, program):
        """Return an edit that makes the program of what this edit makes of it."""
        need_program(program)
        raise InvalidEdit("it is not said what this edit does")

    def __add__(self, other):
        return Several(self, other)

    def __eq__(self, value):
        return type(value) is Edit

    def __str__(self):
        return "edit"

    def __len__(self):
        return 1


class Put(Edit):
    """Puts a statement in front of the statement at the point, or at the end of the block if the point is there."""

    def __init__(self, point, statement):
        self._point = kept(point)
        self._statement = kept(statement)

    def applied(self, program):
        """Return the program with one more statement."""
        old = statements_at(program, self._point)
        return with_statements(program, self._point, (self._statement,) + old)

    def inverse(self, program):
        """Return the edit that takes the statement away."""
        self.applied(program)
        return Take(self._point)

    def __add__(self, other):
        return Several(self, other)

    def __eq__(self, value):
        return isinstance(value, Put) and self._point == value._point and self._statement == value._statement

    def __str__(self):
        return "put"

    def __len__(self):
        return 1


class Take(Edit):
    """Removes the statement at the point."""

    def __init__(self, point):
        self._point = kept(point)

    def applied(self, program):
        """Return the program with one statement less."""
        need_statement(program, self._point)
        return with_statements(program, self._point, ())

    def inverse(self, program):
        """Return the edit that puts the statement back."""
        self.applied(program)
        return Put(self._point, statements_at(program, self._point)[0])

    def __add__(self, other):
        return Several(self, other)

    def __eq__(self, value):
        return isinstance(value, Take) and self._point == value._point

    def __str__(self):
        return "take"

    def __len__(self):
        return 1


class Replace(Edit):
    """Replaces the statement at the point."""

    def __init__(self, point, statement):
        self._point = kept(point)
        self._statement = kept(statement)

    def applied(self, program):
        """Return the program with another statement at the point."""
        need_statement(program, self._point)
        return with_statements(program, self._point, (self._statement,))

    def inverse(self, program):
        """Return the edit that replaces it by the present statement."""
        self.applied(program)
        return Replace(self._point, statements_at(program, self._point)[0])

    def __add__(self, other):
        return Several(self, other)

    def __eq__(self, value):
        return isinstance(value, Replace) and self._point == value._point and self._statement == value._statement

    def __str__(self):
        return "replace"

    def __len__(self):
        return 1


class Add(Edit):
    """Adds a procedure."""

    def __init__(self, procedure):
        self._procedure = kept(procedure)

    def applied(self, program):
        """Return the program with one more procedure."""
        need_program(program)
        if not fits_procedure(self._procedure):
            raise InvalidEdit("what is added is not a procedure")
        return with_procedures(program, program[2] + (self._procedure,))

    def inverse(self, program):
        """Return the edit that removes the procedure."""
        self.applied(program)
        return Drop(self._procedure[0])

    def __add__(self, other):
        return Several(self, other)

    def __eq__(self, value):
        return isinstance(value, Add) and self._procedure == value._procedure

    def __str__(self):
        return "add"

    def __len__(self):
        return 1


class Drop(Edit):
    """Removes the procedure with the name."""

    def __init__(self, name):
        self._name = kept(name)

    def applied(self, program):
        """Return the program with one procedure less."""
        need_program(program)
        if procedure_called(program, self._name) is None:
            raise InvalidEdit("there is no procedure with this name")
        return with_procedures(program, [procedure for procedure in program[2] if procedure[0] != self._name])

    def inverse(self, program):
        """Return the edit that adds the procedure again."""
        self.applied(program)
        return Add(procedure_called(program, self._name))

    def __add__(self, other):
        return Several(self, other)

    def __eq__(self, value):
        return isinstance(value, Drop) and self._name == value._name

    def __str__(self):
        return "drop"

    def __len__(self):
        return 1


class Several(Edit):
    """Does edits one after another."""

    def __init__(self, *edits):
        self._parts = kept(edits)
        self._total = sum([len(part) if isinstance(part, Edit) else 1 for part in self._parts])

    def applied(self, program):
        """Return the program after all the edits."""
        need_program(program)
        for part in single_parts(self._parts):
            need_edit(part)
            program = part.applied(program)
        return program

    def inverse(self, program):
        """Return the edit that undoes them, the last one first."""
        need_program(program)
        inverses = []
        for part in single_parts(self._parts):
            need_edit(part)
            inverses.append(part.inverse(program))
            program = part.applied(program)
        backward = inverses[::-1]
        return Several(*backward)

    def __add__(self, other):
        return Several(self, other)

    def __eq__(self, value):
        return isinstance(value, Several) and same_parts(self._parts, value._parts)

    def __str__(self):
        return f"{self._total} edits"

    def __len__(self):
        return len(range(self._total))


def kept(value):
    """Return the value with copies of the lists and dicts in it."""
    if isinstance(value, tuple):
        return tuple([kept(part) for part in value])
    if isinstance(value, list):
        return [kept(part) for part in value]
    if isinstance(value, dict):
        return {key: kept(part) for key, part in value.items()}
    return value


def statements_at(program, point):
    """Return the tuple of the one statement at the point, or () at the end of a block."""
    atlas = charted(program)
    if not fits_point(atlas, point):
        raise InvalidEdit("there is no such point")
    statement = node_at(atlas, point).statement
    if statement is None:
        return ()
    return (statement,)


def need_statement(program, point):
    """Raise InvalidEdit if there is no statement at the point."""
    if not statements_at(program, point):
        raise InvalidEdit("there is no statement at the point")


def with_statements(program, point, statements):
    """Return the program with these statements at the point, in the place of the one that is there."""
    return need_result(rebuilt(program, {point: statements}))


def with_procedures(program, procedures):
    """Return the program with these procedures."""
    ordered = tuple(sorted(list(procedures), key=lambda procedure: procedure[0]))
    return need_result(program[:2] + (ordered,))


def need_result(value):
    """Return the value; raise InvalidEdit if it is not a program."""
    if not is_program(value):
        raise InvalidEdit("the result is not a program")
    return value


def need_edit(value):
    """Raise InvalidEdit if the value is not an edit."""
    if not isinstance(value, Edit):
        raise InvalidEdit("this is not an edit")


def single_parts(parts):
    """Return the list of the parts in their order, with the parts of each Several in its place."""
    # Sums of sums may be nested deeper than calls can be.
    found, pending = [], list(parts[::-1])
    while pending:
        part = pending.pop()
        if isinstance(part, Several):
            pending.extend(part._parts[::-1])
        else:
            found.append(part)
    return found


def same_parts(first, second):
    """Return whether two tuples of parts are equal."""
    pending = [(first, second)]
    while pending:
        some, others = pending.pop()
        if len(some) != len(others):
            return False
        for one, other in zip(some, others):
            if isinstance(one, Several) and isinstance(other, Several):
                pending.append((one._parts, other._parts))
            elif one != other:
                return False
    return True
