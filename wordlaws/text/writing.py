"""How programs, rows, points and trails are written. The functions of this file check nothing."""
from wordlaws.code.programs import all_variables


def written_program(program):
    """Return the text of the program."""
    width, shared, procedures = program
    lines = [f"width {width}", f"globals {written_names(shared)}"]
    for procedure in procedures:
        name, parameters, own, results, body = procedure
        told = [written_names(some) for some in (parameters, own, results)]
        lines.append(f"procedure {name} parameters {told[0]} locals {told[1]} results {told[2]}")
        lines.extend(block_lines(all_variables(shared, procedure), body, "  "))
    return "\n".join(lines)


def block_lines(variables, block, blanks):
    """Return the list of the lines of the block, each beginning with the blanks at least."""
    lines = []
    for statement in block:
        if statement[0] == "choose":
            lines.append(f"{blanks}choose")
            for inner in statement[1]:
                lines.append(f"{blanks}  block")
                lines.extend(block_lines(variables, inner, f"{blanks}    "))
        elif statement[0] == "repeat":
            lines.append(f"{blanks}repeat")
            lines.extend(block_lines(variables, statement[1], f"{blanks}  "))
        else:
            lines.append(f"{blanks}{written_statement(variables, statement)}")
    return lines


def written_statement(variables, statement):
    """Return the line, without indentation, of a set, an input or a call."""
    if statement[0] == "set":
        return f"set {statement[1]} = {written_row(variables, statement[2])}"
    if statement[0] == "input":
        return f"input {statement[1]}"
    _, targets, name, arguments = statement
    rows = ", ".join([written_row(variables, row) for row in arguments])
    if targets:
        return f"call {written_names(targets)} = {name}({rows})"
    return f"call {name}({rows})"


def written_names(names):
    """Return the text of a list of names."""
    if not names:
        return "-"
    return ",".join(names)


def written_row(variables, row):
    """Return the text of the row."""
    parts = []
    if row[0] != 0:
        parts.append(str(row[0]))
    for name, word in zip(variables, row[1:]):
        if word == 1:
            parts.append(name)
        elif word != 0:
            parts.append(f"{word}*{name}")
    if not parts:
        return "0"
    return " + ".join(parts)


def written_point(point):
    """Return the text of the point."""
    name, place = point
    return f"{name} {dotted(place)}"


def written_trail(trail):
    """Return the text of the trail."""
    pieces, frames = trail
    lines = [f"piece {name} {written_moves(moves)}" for name, moves in pieces]
    lines.extend([f"frame {written_moves(moves)}" for moves in frames])
    return "\n".join(lines)


def written_moves(moves):
    """Return the text of the moves."""
    if not moves:
        return "-"
    return dotted(moves)


def dotted(numbers):
    """Return the numbers with dots between them."""
    return ".".join([str(number) for number in numbers])
