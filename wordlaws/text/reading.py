"""How texts are read.

The functions of this file raise ParseError for a text that cannot be read at all. What they return for another text
need not have this text, and need not be of the kind: that is for their callers to see.
"""
from wordlaws.code.programs import MAX_BLOCKS, MAX_NEST, MAX_PROCEDURES, MAX_STATEMENTS, MAX_VARIABLES, fits_name
from wordlaws.errors import ParseError

# No number of the formats is longer, and Python refuses to read numbers of thousands of digits.
MAX_DIGITS = 40
# A choose indents by four blanks what stands in its blocks.
MAX_BLANKS = 2 + 4 * MAX_NEST
MAX_LINES = 2 + MAX_PROCEDURES + MAX_STATEMENTS * (1 + MAX_BLOCKS)


def read_program(text):
    """Return what the text of a program says."""
    if text.count("\n") < 1 or text.count("\n") >= MAX_LINES:
        raise ParseError("a program begins with two lines, and does not have more than some hundred")
    lines = [blanks_and_rest(line) for line in text.split("\n")]
    width = read_number(behind("width ", lines[0]))
    shared = read_names(behind("globals ", lines[1]))
    procedures = []
    at = 2
    while at < len(lines):
        name, parameters, own, results = read_head(lines[at])
        variables = shared + parameters + own
        if len(variables) > MAX_VARIABLES:
            raise ParseError("a procedure has too many variables")
        body, at = read_block(variables, lines, at + 1, 2)
        procedures.append((name, parameters, own, results, body))
    return width, shared, tuple(procedures)


def blanks_and_rest(line):
    """Return how many blanks stand in front of the line, and what follows them."""
    rest = line.lstrip(" ")
    if len(line) - len(rest) > MAX_BLANKS:
        raise ParseError("a line is indented too much")
    return len(line) - len(rest), rest


def behind(start, line):
    """Return what stands behind the start of the line, which is not indented."""
    blanks, rest = line
    if blanks > 0 or not rest.startswith(start):
        raise ParseError(f"a line does not begin with {start}")
    return rest[len(start):]


def read_head(line):
    """Return the name, the parameters, the locals and the results that the line of a procedure says."""
    words = behind("procedure ", line).split(" ")
    if len(words) != 7 or words[1::2] != ["parameters", "locals", "results"]:
        raise ParseError("this is not the line of a procedure")
    return words[0], read_names(words[2]), read_names(words[4]), read_names(words[6])


def read_block(variables, lines, at, blanks):
    """Return the block whose statements are indented by so many blanks, from this line on, and the line behind it."""
    statements = []
    while at < len(lines) and lines[at][0] == blanks:
        rest = lines[at][1]
        at += 1
        if rest == "choose":
            blocks = []
            while at < len(lines) and lines[at] == (blanks + 2, "block"):
                block, at = read_block(variables, lines, at + 1, blanks + 4)
                blocks.append(block)
            statements.append(("choose", tuple(blocks)))
        elif rest == "repeat":
            block, at = read_block(variables, lines, at, blanks + 2)
            statements.append(("repeat", block))
        else:
            statements.append(read_statement(variables, rest))
    return tuple(statements), at


def read_statement(variables, line):
    """Return the set, the input or the call that the line says."""
    word, _, rest = line.partition(" ")
    if word == "set":
        variable, _, row = rest.partition(" = ")
        return word, variable, read_row(variables, row)
    if word == "input":
        return word, rest
    if word != "call" or not rest.endswith(")"):
        raise ParseError("this is not the line of a statement")
    targets = ()
    if " = " in rest:
        told, _, rest = rest.partition(" = ")
        targets = read_names(told)
    name, _, told = rest[:-1].partition("(")
    arguments = ()
    if told != "":
        arguments = tuple([read_row(variables, row) for row in told.split(", ")])
    return word, targets, name, arguments


def read_names(text):
    """Return the names of the list."""
    if text == "-":
        return ()
    names = text.split(",")
    if not all([fits_name(name) for name in names]):
        raise ParseError("names are one to eight letters each, with commas between them")
    return tuple(names)


def read_row(variables, text):
    """Return the row that the text says."""
    columns = {name: 1 + index for index, name in enumerate(variables)}
    words = [0] * (1 + len(variables))
    for part in text.split(" + "):
        factor, star, name = part.partition("*")
        if star == "" and part in columns:
            words[columns[part]] = 1
        elif star == "":
            words[0] = read_number(part)
        elif name in columns:
            words[columns[name]] = read_number(factor)
        else:
            raise ParseError("there is no such variable")
    return tuple(words)


def read_point(text):
    """Return the point that the text says."""
    name, _, place = text.partition(" ")
    return name, read_numbers(place)


def read_trail(text):
    """Return the trail that the text says."""
    pieces, frames = [], []
    for line in text.split("\n"):
        words = line.split(" ")
        if len(words) == 3 and words[0] == "piece":
            pieces.append((words[1], read_moves(words[2])))
        elif len(words) == 2 and words[0] == "frame":
            frames.append(read_moves(words[1]))
        else:
            raise ParseError("a line of a trail is a piece or a frame")
    return tuple(pieces), tuple(frames)


def read_moves(text):
    """Return the moves that the text says."""
    if text == "-":
        return ()
    return read_numbers(text)


def read_numbers(text):
    """Return the tuple of the numbers between which dots stand."""
    return tuple([read_number(part) for part in text.split(".")])


def read_number(text):
    """Return the number."""
    if len(text) > MAX_DIGITS or not has_digits(text):
        raise ParseError("this is not a number")
    return int(text)


def has_digits(text):
    """Return whether the text has digits, and nothing else."""
    return text != "" and all(["0" <= sign <= "9" for sign in text])
