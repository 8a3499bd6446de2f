"""What the document says about the form of programs, in the plainest words."""
from tests import brute


def is_name(value):
    return type(value) is str and 1 <= len(value) <= 8 and set(value) <= set("abcdefghijklmnopqrstuvwxyz")


def are_names(value):
    return type(value) is tuple and all(is_name(name) for name in value)


class Wrong(Exception):
    """The value is not a program."""


def need(right):
    if not right:
        raise Wrong


def is_program(value):
    try:
        check_program(value)
    except Wrong:
        return False
    return True


def check_program(value):
    need(type(value) is tuple and len(value) == 3)
    width, shared, procedures = value
    need(brute.is_width(width) and are_names(shared) and type(procedures) is tuple)
    need(all(type(procedure) is tuple and len(procedure) == 5 for procedure in procedures))
    need(all(is_name(procedure[0]) for procedure in procedures))
    names = [procedure[0] for procedure in procedures]
    need("main" in names and names == sorted(set(names)) and len(names) <= 6)
    table = {}
    for name, parameters, own, results, _ in procedures:
        need(are_names(parameters) and are_names(own) and are_names(results))
        table[name] = (len(parameters), len(results))
    need(table["main"] == (0, 0))
    statements = 0
    for _, parameters, own, results, body in procedures:
        variables = shared + parameters + own
        need(len(variables) <= 4 and len(set(variables)) == len(variables))
        need(len(results) <= 2 and len(set(results)) == len(results) and set(results) <= set(parameters + own))
        statements += check_block(width, variables, table, body, 0)
    need(statements <= 60)


def check_block(width, variables, table, block, nested):
    """Return the number of statements of the block."""
    need(type(block) is tuple)
    return sum(check_statement(width, variables, table, statement, nested) for statement in block)


def check_statement(width, variables, table, statement, nested):
    need(type(statement) is tuple and len(statement) > 0 and type(statement[0]) is str)
    rows, names = [], []
    blocks = ()
    if statement[0] == "set":
        need(len(statement) == 3)
        names, rows = [statement[1]], [statement[2]]
    elif statement[0] == "input":
        need(len(statement) == 2)
        names = [statement[1]]
    elif statement[0] == "choose":
        need(len(statement) == 2 and type(statement[1]) is tuple and 2 <= len(statement[1]) <= 4)
        blocks = statement[1]
    elif statement[0] == "repeat":
        need(len(statement) == 2)
        blocks = statement[1:]
    else:
        need(statement[0] == "call" and len(statement) == 4)
        _, names, name, rows = statement
        need(type(name) is str and name in table and name != "main" and type(names) is type(rows) is tuple)
        need(table[name] == (len(rows), len(names)))
    need(all(type(name) is str and name in variables for name in names) and len(set(names)) == len(names))
    need(all(brute.is_vector(width, 1 + len(variables), row) for row in rows))
    need(not blocks or nested < 3)
    return 1 + sum(check_block(width, variables, table, block, nested + 1) for block in blocks)
