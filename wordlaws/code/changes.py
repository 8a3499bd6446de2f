"""Changes of programs, with the points of the new program to which the old ones go, and slices."""
from wordlaws.code.charts import all_points, charted, need_point, need_row, node_at
from wordlaws.code.needs import column_bit, coefficient_bits, needed_bits
from wordlaws.code.programs import MAX_NEST, MAX_STATEMENTS, MAX_VARIABLES, all_variables, blocks_in, count_all
from wordlaws.code.programs import count_statements, fits_name, is_program, need_procedure, need_program
from wordlaws.code.programs import procedure_called
from wordlaws.code.rebuilding import Wording, rebuilt, reworded_block, reworded_name, reworded_names
from wordlaws.errors import InvalidChange, TooMany, UnknownName
from wordlaws.modules.echelon import unit

LETTERS = "abcdefghijklmnopqrstuvwxyz"


def renamed(program, *pairs, inside=None):
    """Return the program with other names of procedures, or of variables inside one of them, and the new points."""
    need_program(program)
    if inside is not None:
        need_procedure(program, inside)
    for pair in pairs:
        if not isinstance(pair, tuple) or len(pair) != 2 or not fits_name(pair[0]) or not fits_name(pair[1]):
            raise InvalidChange("a change of a name is a pair of names")
    names = {old: new for old, new in pairs}
    if len(names) < len(pairs) or inside is None and "main" in names:
        raise InvalidChange("a procedure other than main, or a variable, gets one new name")
    known = [procedure[0] for procedure in program[2]]
    if inside is not None:
        _, parameters, own, _, _ = procedure_called(program, inside)
        known = parameters + own
    for old, _ in pairs:
        if old not in known:
            raise UnknownName(old)
    changed = with_names(program, names, inside)
    if not is_program(changed):
        raise InvalidChange("with these names it is not a program")
    points = all_points(charted(program))
    if inside is not None:
        return changed, {point: (point,) for point in points}
    return changed, {(name, place): ((reworded_name(names, name), place),) for name, place in points}


def inlined(program, point):
    """Return the program with the body of the callee in the place of the call at the point, and the new points."""
    atlas = charted(program)
    need_point(atlas, point)
    node = node_at(atlas, point)
    if node.kind != "call" or node.callee == point[0]:
        raise InvalidChange("there is no call of another procedure at the point")
    name, place = point
    callee = procedure_called(program, node.callee)
    variables = all_variables(program[1], procedure_called(program, name))
    own = callee[1] + callee[2]
    if len(variables) + len(own) > MAX_VARIABLES:
        raise TooMany(MAX_VARIABLES)
    if count_all(program) - 1 + len(own) + count_statements(callee[4]) + len(node.targets) > MAX_STATEMENTS:
        raise TooMany(MAX_STATEMENTS)
    if len(place) // 2 + nesting(callee[4]) > MAX_NEST:
        raise TooMany(MAX_NEST)
    # At most four variables are taken and four are new, so the names of two letters are not needed.
    fresh = [letter for letter in LETTERS if letter not in variables][:len(own)]
    statements = inlined_call(program, point, callee, fresh)
    changed = rebuilt(widened(program, name, tuple(fresh)), {point: statements})
    points = shifted_points(atlas, point, len(statements) - 1)
    if node_at(charted(changed), point).kind == "repeat":
        points[point] = ()
    return changed, {old: () if old[0] == node.callee else new for old, new in points.items()}


def unrolled(program, point):
    """Return the program with one more round, which may be left out, behind the repeat, and the new points."""
    atlas = charted(program)
    need_point(atlas, point)
    statement = node_at(atlas, point).statement
    if statement is None or statement[0] != "repeat":
        raise InvalidChange("there is no repeat at the point")
    if count_all(program) + 1 + count_statements(statement[1]) > MAX_STATEMENTS:
        raise TooMany(MAX_STATEMENTS)
    name, place = point
    points = shifted_points(atlas, point, 1)
    again = place[:-1] + (place[-1] + 1, 1)
    for other in atlas.charts[name].nodes:
        if other[:len(place)] == place and len(other) > len(place):
            points[(name, other)] = ((name, other), (name, again + other[len(place) + 1:]))
    return rebuilt(program, {point: (statement, ("choose", ((), statement[1])))}), points


def exchanged(program, point):
    """Return the program in which the statement at the point and the next one are exchanged, and the new points."""
    atlas = charted(program)
    need_point(atlas, point)
    name, place = point
    between = (name, place[:-1] + (place[-1] + 1,))
    first = node_at(atlas, point)
    if first.statement is None or not can_exchange(atlas, first, node_at(atlas, between)):
        raise InvalidChange("there are no two statements at the point that can be exchanged")
    second = node_at(atlas, between)
    points = {other: (other,) for other in all_points(atlas)}
    points[between] = ()
    return rebuilt(program, {point: (second.statement,), between: (first.statement,)}), points


def sliced(program, point, row):
    """Return the program in which each set of a variable that is not needed for the row keeps the variable."""
    atlas = charted(program)
    need_point(atlas, point)
    need_row(atlas, point[0], row)
    needed = needed_bits(atlas, point, row)
    replacements = {}
    for name, place in all_points(atlas):
        node = node_at(atlas, (name, place))
        if node.kind == "set" and needed[(name, node.exits[0])] & column_bit(node.column) == 0:
            kept = unit(atlas.charts[name].state_size, node.column)
            replacements[(name, place)] = (("set", node.statement[1], kept),)
    return rebuilt(program, replacements)


def nesting(block):
    """Return how many statements choose and repeat are nested in the block at most."""
    depths = [0]
    for statement in block:
        for inner in blocks_in(statement):
            depths.append(1 + nesting(inner))
    return max(depths)


def with_names(program, names, inside):
    """Return the program with new names of procedures, or, if `inside` is a name, of the variables of that one."""
    width, shared, procedures = program
    found = []
    for procedure in procedures:
        name, parameters, own, results, body = procedure
        size = 1 + len(all_variables(shared, procedure))
        variables = names if name == inside else {}
        wording = Wording(variables, names if inside is None else {}, tuple(range(size)), size)
        found.append((
            reworded_name(wording.procedures, name),
            reworded_names(variables, parameters),
            reworded_names(variables, own),
            reworded_names(variables, results),
            reworded_block(body, wording),
        ))
    return width, shared, tuple(sorted(found, key=lambda entry: entry[0]))


def widened(program, name, fresh):
    """Return the program in which the procedure has more locals, which it does not use."""
    width, shared, procedures = program
    found = []
    for procedure in procedures:
        if procedure[0] == name:
            many = 1 + len(all_variables(shared, procedure))
            wording = Wording({}, {}, tuple(range(many)), many + len(fresh))
            _, parameters, own, results, body = procedure
            procedure = (name, parameters, own + fresh, results, reworded_block(body, wording))
        found.append(procedure)
    return width, shared, tuple(found)


def inlined_call(program, point, callee, fresh):
    """Return the statements that do what the call at the point does, with new locals for the callee's variables."""
    _, shared, _ = program
    _, targets, _, arguments = node_at(charted(program), point).statement
    _, parameters, own, results, body = callee
    variables = all_variables(shared, procedure_called(program, point[0]))
    size = 1 + len(variables) + len(fresh)
    columns = {name: 1 + len(variables) + index for index, name in enumerate(parameters + own)}
    names = {name: fresh[index] for index, name in enumerate(parameters + own)}
    statements = []
    for name, row in zip(parameters, arguments):
        statements.append(("set", names[name], row + (0,) * len(fresh)))
    for name in own:
        statements.append(("set", names[name], (0,) * size))
    moved = list(range(1 + len(shared))) + list(columns.values())
    statements.extend(reworded_block(body, Wording(names, {}, moved, size)))
    for target, result in zip(targets, results):
        statements.append(("set", target, unit(size, columns[result])))
    return tuple(statements)


def shifted_points(atlas, point, many):
    """Return the dict from points to tuples of one new point, if the block has so many more places behind this one."""
    name, place = point
    outer, index = place[:-1], place[-1]
    points = {old: (old,) for old in all_points(atlas)}
    for other in atlas.charts[name].nodes:
        if other[:len(outer)] == outer and other[len(outer)] > index:
            moved = outer + (other[len(outer)] + many,) + other[len(place):]
            points[(name, other)] = ((name, moved),)
    return points


def can_exchange(atlas, first, second):
    """Return whether the two statements may be exchanged."""
    kinds = (first.kind, second.kind)
    if any([kind not in ("set", "input", "call") for kind in kinds]) or kinds == ("call", "call"):
        return False
    first_uses, first_gives = uses_and_gives(atlas, first)
    second_uses, second_gives = uses_and_gives(atlas, second)
    return first_gives & (second_uses | second_gives) == 0 and second_gives & first_uses == 0


def uses_and_gives(atlas, node):
    """Return the bits of the variables that the statement uses, and of those to which it gives values."""
    if node.kind == "call":
        uses = gives = sum([column_bit(1 + index) for index in range(atlas.many_shared)])
        for row in node.arguments:
            uses = uses | coefficient_bits(row)
        for target in node.targets:
            gives = gives | column_bit(target)
        return uses, gives
    return coefficient_bits(node.row), column_bit(node.column)
