"""Texts of programs, rows, points and trails.

What is read is written again: so exactly the texts that are written are accepted.
"""
from wordlaws.base.words import fits_vector
from wordlaws.code.charts import charted, fits_point, need_point, need_row
from wordlaws.code.programs import all_variables, fits_statement, is_program, need_procedure, need_program
from wordlaws.code.programs import procedure_called
from wordlaws.errors import ParseError
from wordlaws.runs.trails import fits_trail, need_trail
from wordlaws.text.reading import read_point, read_program, read_row, read_statement, read_trail
from wordlaws.text.writing import written_point, written_program, written_row, written_statement, written_trail


def program_text(program):
    """Return the text of the program."""
    need_program(program)
    return written_program(program)


def parse_program(text):
    """Return the program that has the text."""
    need_text(text)
    program = read_program(text)
    if not is_program(program) or written_program(program) != text:
        raise ParseError("this is not the text of a program")
    return program


def row_text(program, name, row):
    """Return the text of the row of the procedure."""
    atlas = charted(program)
    need_procedure(program, name)
    need_row(atlas, name, row)
    return written_row(variables_in(program, name), row)


def parse_row(program, name, text):
    """Return the row of the procedure that has the text."""
    atlas = charted(program)
    need_procedure(program, name)
    need_text(text)
    variables = variables_in(program, name)
    row = read_row(variables, text)
    if not fits_vector(atlas.word_width, 1 + len(variables), row) or written_row(variables, row) != text:
        raise ParseError("this is not the text of a row")
    return row


def point_text(program, point):
    """Return the text of the point."""
    need_point(charted(program), point)
    return written_point(point)


def parse_point(program, text):
    """Return the point that has the text."""
    atlas = charted(program)
    need_text(text)
    point = read_point(text)
    if not fits_point(atlas, point) or written_point(point) != text:
        raise ParseError("this is not the text of a point")
    return point


def trail_text(program, trail):
    """Return the text of the trail."""
    need_trail(charted(program), trail)
    return written_trail(trail)


def parse_trail(program, text):
    """Return the trail that has the text."""
    atlas = charted(program)
    need_text(text)
    trail = read_trail(text)
    if not fits_trail(atlas, trail) or written_trail(trail) != text:
        raise ParseError("this is not the text of a trail")
    return trail


def parsed_statement(program, name, text):
    """Return the set, the input or the call that has this line, and that is a statement for the procedure."""
    variables = variables_in(program, name)
    counts = {procedure[0]: (len(procedure[1]), len(procedure[3])) for procedure in program[2]}
    statement = read_statement(variables, text)
    if not fits_statement((program[0], variables, counts), statement, 0):
        raise ParseError("this is not a statement for the procedure")
    if written_statement(variables, statement) != text:
        raise ParseError("this is not the line of a statement")
    return statement


def variables_in(program, name):
    """Return the variables of the procedure."""
    return all_variables(program[1], procedure_called(program, name))


def need_text(value):
    """Raise ParseError if the value is not a string."""
    if not isinstance(value, str):
        raise ParseError("a text is a string")
