"""Charts of programs: for each place what stands there, and where its moves lead.

The functions of this package's other files look places up in an atlas, which holds one chart for each procedure.
States, entries and outcomes have the constant in column 0 and the globals in the next columns.
"""
from wordlaws.base.words import fits_bounds, fits_vector, fits_word
from wordlaws.code.programs import all_variables, blocks_in, need_program
from wordlaws.errors import InvalidRow, UnknownPoint


class Node:
    """What stands at one place.

    The kind is that of the statement, or "end" at the end of a block, or "exit". The exits are the places to which
    the moves 0, 1, .. lead; an input and a call have one exit for all their moves.
    """

    def __init__(self, kind, exits, statement):
        self.kind = kind
        self.exits = exits
        self.statement = statement
        # The column and the row belong to a set, the column to an input, all others to a call.
        self.column = 0
        self.row = ()
        self.callee = ""
        self.arguments = ()
        self.targets = ()


class Chart:
    """One procedure: the nodes of its places in the order of the text, and where its words stand in vectors."""

    def __init__(self, shared, procedure):
        name, parameters, _, results, body = procedure
        variables = all_variables(shared, procedure)
        columns = {variable: 1 + index for index, variable in enumerate(variables)}
        self.name = name
        self.entry_size = 1 + len(shared) + len(parameters)
        self.state_size = 1 + len(variables)
        self.outcome_columns = tuple(range(1 + len(shared))) + tuple([columns[result] for result in results])
        self.last = (len(body),)
        self.nodes = {}
        draw_block(self.nodes, columns, body, (), ())


class Atlas:
    """The charts of all procedures of a program."""

    def __init__(self, program):
        width, shared, procedures = program
        self.word_width = width
        self.many_shared = len(shared)
        self.charts = {procedure[0]: Chart(shared, procedure) for procedure in procedures}


def charted(value):
    """Return the atlas of the program; raise InvalidProgram if the value is not a program."""
    need_program(value)
    return Atlas(value)


def draw_block(nodes, columns, block, start, back):
    """Add the nodes of the block, whose places begin with `start`.

    Its end leads to the one place in `back`; it is the exit of the procedure if there is none.
    """
    for index, statement in enumerate(block):
        place, behind = start + (index,), start + (index + 1,)
        nodes[place] = node_of(columns, statement, place, behind)
        inner_back = place if statement[0] == "repeat" else behind
        for number, inner in enumerate(blocks_in(statement)):
            draw_block(nodes, columns, inner, place + (number,), (inner_back,))
    nodes[start + (len(block),)] = Node("end" if back else "exit", back, None)


def node_of(columns, statement, place, behind):
    """Return the node of the place before the statement."""
    kind = statement[0]
    if kind == "choose":
        return Node(kind, tuple([place + (number, 0) for number in range(len(statement[1]))]), statement)
    if kind == "repeat":
        return Node(kind, (behind, place + (0, 0)), statement)
    node = Node(kind, (behind,), statement)
    if kind == "call":
        node.targets = tuple([columns[target] for target in statement[1]])
        node.callee = statement[2]
        node.arguments = statement[3]
    else:
        node.column = columns[statement[1]]
    if kind == "set":
        node.row = statement[2]
    return node


def node_at(atlas, point):
    """Return the node of the point."""
    name, place = point
    return atlas.charts[name].nodes[place]


def all_points(atlas):
    """Return the list of all points, ascending."""
    return [(name, place) for name, chart in atlas.charts.items() for place in chart.nodes]


def fits_move(width, node, move):
    """Return whether the node has a step with this move; at a call this is the step that leads behind it."""
    if node.kind == "input":
        return fits_word(width, move)
    return fits_bounds(move, 0, len(node.exits) - 1)


def led_to(node, move):
    """Return the place to which the move leads; at a call this is the place behind it, whatever the move is."""
    if node.kind in ("input", "call"):
        return node.exits[0]
    return node.exits[move]


def fits_point(atlas, value):
    """Return whether the value is a point."""
    if not isinstance(value, tuple) or len(value) != 2:
        return False
    name, place = value
    if not isinstance(name, str) or name not in atlas.charts or not isinstance(place, tuple):
        return False
    # True is equal to 1, so it would be found as a part of a key.
    if not all([isinstance(part, int) and not isinstance(part, bool) for part in place]):
        return False
    return place in atlas.charts[name].nodes


def need_point(atlas, value):
    """Raise UnknownPoint if the value is not a point."""
    if not fits_point(atlas, value):
        raise UnknownPoint(value)


def need_row(atlas, name, value):
    """Raise InvalidRow if the value is not a row of the procedure."""
    if not fits_vector(atlas.word_width, atlas.charts[name].state_size, value):
        raise InvalidRow(f"a row of {name} is a tuple of {atlas.charts[name].state_size} words")
