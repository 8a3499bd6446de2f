"""Programs with other statements, and statements in other words. The functions of this file check nothing."""
from wordlaws.code.programs import blocks_in


def rebuilt(program, replacements):
    """Return the program in which statements are replaced.

    The replacements are a dict from points to tuples of the statements that stand there instead. At the end of a
    block they are added.
    """
    width, shared, procedures = program
    return width, shared, tuple([
        procedure[:4] + (rebuilt_block(procedure[0], procedure[4], (), replacements),) for procedure in procedures
    ])


def rebuilt_block(name, block, start, replacements):
    """Return the block, whose places begin with `start`, in which statements are replaced."""
    found = []
    for index, statement in enumerate(block):
        place = start + (index,)
        if (name, place) in replacements:
            found.extend(replacements[(name, place)])
            continue
        inner = [
            rebuilt_block(name, part, place + (number,), replacements)
            for number, part in enumerate(blocks_in(statement))
        ]
        found.append(with_blocks(statement, tuple(inner)))
    found.extend(replacements.get((name, start + (len(block),)), ()))
    return tuple(found)


def with_blocks(statement, blocks):
    """Return the statement with these blocks in the place of its own."""
    if statement[0] == "choose":
        return "choose", blocks
    if statement[0] == "repeat":
        return "repeat", blocks[0]
    return statement


class Wording:
    """Other names of variables and of procedures, the new columns of all columns of rows, and their new size.

    A name that is not in its dict stays.
    """

    def __init__(self, variables, procedures, columns, row_size):
        self.variables = variables
        self.procedures = procedures
        self.columns = columns
        self.row_size = row_size


def reworded_block(block, wording):
    """Return the block in the other words."""
    return tuple([reworded(statement, wording) for statement in block])


def reworded(statement, wording):
    """Return the statement in the other words."""
    kind = statement[0]
    if kind == "set":
        return kind, reworded_name(wording.variables, statement[1]), reworded_row(statement[2], wording)
    if kind == "input":
        return kind, reworded_name(wording.variables, statement[1])
    if kind == "call":
        targets = reworded_names(wording.variables, statement[1])
        arguments = tuple([reworded_row(row, wording) for row in statement[3]])
        return kind, targets, reworded_name(wording.procedures, statement[2]), arguments
    return with_blocks(statement, tuple([reworded_block(block, wording) for block in blocks_in(statement)]))


def reworded_name(names, name):
    """Return the new name."""
    return names.get(name, name)


def reworded_names(names, some):
    """Return the tuple of the new names of some names."""
    return tuple([reworded_name(names, name) for name in some])


def reworded_row(row, wording):
    """Return the row with its coefficients in their new columns, and 0 in all others."""
    words = [0] * wording.row_size
    for column, word in zip(wording.columns, row):
        words[column] = word
    return tuple(words)
