"""Programs, as tuples, and what can be read off them directly."""
from wordlaws.base.words import fits_bounds, fits_vector, is_width, need_width
from wordlaws.errors import InvalidProgram, UnknownName

MAX_PROCEDURES = 6
MAX_VARIABLES = 4
MAX_RESULTS = 2
MAX_STATEMENTS = 60
MAX_NEST = 3
MAX_BLOCKS = 4

MAX_LETTERS = 8


def is_program(value):
    """Return whether the value is a program."""
    if not isinstance(value, tuple) or len(value) != 3:
        return False
    width, shared, procedures = value
    if not is_width(width) or not fits_names(shared) or not fits_procedures(procedures):
        return False
    counts = {procedure[0]: (len(procedure[1]), len(procedure[3])) for procedure in procedures}
    if counts.get("main") != (0, 0):
        return False
    for procedure in procedures:
        if not fits_variables(shared, procedure):
            return False
        scope = (width, all_variables(shared, procedure), counts)
        if not fits_block(scope, procedure[4], MAX_NEST):
            return False
    return count_all(value) <= MAX_STATEMENTS


def make_program(width, *procedures, shared=()):
    """Return the program with the shared variables as its globals and with the procedures in ascending order."""
    need_width(width)
    for procedure in procedures:
        if not fits_procedure(procedure):
            raise InvalidProgram("a procedure is a tuple (name, parameters, locals, results, body)")
    program = (width, shared, tuple(sorted(list(procedures), key=lambda entry: entry[0])))
    need_program(program)
    return program


def procedure_names(program):
    """Return the names of the procedures, ascending."""
    need_program(program)
    return tuple([procedure[0] for procedure in program[2]])


def variables_of(program, name):
    """Return the variables of the procedure."""
    need_program(program)
    need_procedure(program, name)
    return all_variables(program[1], procedure_called(program, name))


def results_of(program, name):
    """Return the results of the procedure."""
    need_program(program)
    need_procedure(program, name)
    return procedure_called(program, name)[3]


def called_by(program, name):
    """Return the ascending names of all procedures that are called in the body of the procedure."""
    need_program(program)
    need_procedure(program, name)
    return tuple(sorted(set(called_in(procedure_called(program, name)[4]))))


def need_program(value):
    """Raise InvalidProgram if the value is not a program."""
    if not is_program(value):
        raise InvalidProgram("not a program")


def need_procedure(program, name):
    """Raise UnknownName if the program has no procedure with this name."""
    if procedure_called(program, name) is None:
        raise UnknownName(name)


def procedure_called(program, name):
    """Return the procedure with this name, or None if there is none."""
    for procedure in program[2]:
        if procedure[0] == name:
            return procedure
    return None


def all_variables(shared, procedure):
    """Return the globals, the parameters and the locals."""
    return shared + procedure[1] + procedure[2]


def blocks_in(statement):
    """Return the blocks of the statement: there are some in a choose, one in a repeat, and none in the others."""
    if statement[0] == "choose":
        return statement[1]
    if statement[0] == "repeat":
        return (statement[1],)
    return ()


def count_statements(block):
    """Return the number of statements of the block, all blocks in it included."""
    total = len(block)
    for statement in block:
        for inner in blocks_in(statement):
            total = total + count_statements(inner)
    return total


def count_all(program):
    """Return the number of statements of the program, all blocks included."""
    return sum([count_statements(procedure[4]) for procedure in program[2]])


def called_in(block):
    """Return the list of the names that are called in the block and in all blocks in it."""
    names = []
    for statement in block:
        if statement[0] == "call":
            names.append(statement[2])
        for inner in blocks_in(statement):
            names.extend(called_in(inner))
    return names


def fits_name(value):
    """Return whether the value is a name."""
    if not isinstance(value, str) or not fits_bounds(len(value), 1, MAX_LETTERS):
        return False
    return all(["a" <= letter <= "z" for letter in value])


def fits_names(value):
    """Return whether the value is a tuple of names."""
    return isinstance(value, tuple) and all([fits_name(name) for name in value])


def fits_procedures(value):
    """Return whether the value is a tuple of one to six procedures in ascending order, whatever stands in them."""
    if not isinstance(value, tuple) or not fits_bounds(len(value), 1, MAX_PROCEDURES):
        return False
    if not all([fits_procedure(procedure) for procedure in value]):
        return False
    return all([before[0] < behind[0] for before, behind in zip(value, value[1:])])


def fits_procedure(value):
    """Return whether the value has the parts of a procedure, with any body."""
    if not isinstance(value, tuple) or len(value) != 5:
        return False
    name, parameters, own, results, _ = value
    return fits_name(name) and fits_names(parameters) and fits_names(own) and fits_names(results)


def fits_variables(shared, procedure):
    """Return whether the variables and the results of the procedure are distinct and not too many."""
    variables = all_variables(shared, procedure)
    results = procedure[3]
    if len(variables) > MAX_VARIABLES or len(set(variables)) < len(variables):
        return False
    if len(results) > MAX_RESULTS or len(set(results)) < len(results):
        return False
    return all([name in variables and name not in shared for name in results])


def fits_block(scope, value, depth):
    """Return whether the value is a block in which at most this many statements are nested.

    The scope is a triple: the width, the variables, and a dict from the names of all procedures to the numbers of
    their parameters and results.
    """
    return isinstance(value, tuple) and all([fits_statement(scope, statement, depth) for statement in value])


def fits_statement(scope, value, depth):
    """Return whether the value is a statement in which, itself included, at most this many are nested."""
    if not isinstance(value, tuple) or not value:
        return False
    kind, parts = value[0], value[1:]
    if kind == "set":
        return len(parts) == 2 and fits_variable(scope, parts[0]) and fits_row(scope, parts[1])
    if kind == "input":
        return len(parts) == 1 and fits_variable(scope, parts[0])
    if kind == "call":
        return len(parts) == 3 and fits_call(scope, parts[0], parts[1], parts[2])
    if kind == "choose":
        return len(parts) == 1 and fits_blocks(scope, parts[0], depth)
    return kind == "repeat" and len(parts) == 1 and depth > 0 and fits_block(scope, parts[0], depth - 1)


def fits_blocks(scope, value, depth):
    """Return whether the value is a tuple of blocks of a choose statement."""
    if depth == 0 or not isinstance(value, tuple) or not fits_bounds(len(value), 2, MAX_BLOCKS):
        return False
    return all([fits_block(scope, block, depth - 1) for block in value])


def fits_call(scope, targets, name, arguments):
    """Return whether these are the targets, the name and the arguments of a call."""
    _, variables, counts = scope
    if not fits_name(name) or name == "main" or name not in counts:
        return False
    if not isinstance(targets, tuple) or not isinstance(arguments, tuple):
        return False
    if counts[name] != (len(arguments), len(targets)):
        return False
    if not all([fits_variable(scope, target) for target in targets]) or len(set(targets)) < len(targets):
        return False
    return all([fits_row(scope, row) for row in arguments])


def fits_variable(scope, value):
    """Return whether the value is a variable of the procedure."""
    return isinstance(value, str) and value in scope[1]


def fits_row(scope, value):
    """Return whether the value is a row of the variables of the procedure."""
    return fits_vector(scope[0], 1 + len(scope[1]), value)
