"""Invariants of degree two and three of programs without calls."""
from wordlaws.base.words import dot, fits_bounds, fits_vector
from wordlaws.code.charts import charted, fits_point, led_to, need_point
from wordlaws.code.effects import after_step, column_of, flat
from wordlaws.code.rows import times_vector
from wordlaws.errors import InvalidNumber, InvalidProgram, InvalidVector
from wordlaws.facts.monomials import all_monomials, powers_of, some_words, substitutions
from wordlaws.flow.flows import moves_to
from wordlaws.flow.growth import Growth
from wordlaws.modules.bases import fits_basis, spans
from wordlaws.modules.echelon import kernel, unit
from wordlaws.runs.courses import course_along, point_now, state_now

MAX_COUNT = 4


class Climb:
    """For each point of main the powers of states of runs, as matrices of one column, which span those of all runs.

    The source of a column is None at the beginning of a run; otherwise it is a triple (place, index, move): from the
    column with this index of this place the move leads to it.
    """

    def __init__(self, atlas, degree):
        self.atlas = atlas
        self.degree = degree
        self.monomials = monomials_for(atlas, "main", degree)
        self.growths = {("main", place): Growth(atlas.word_width) for place in atlas.charts["main"].nodes}
        self.events = []

    def reach(self, place, state, source):
        """Note that some run leads to the state, a vector, at the place."""
        growth = self.growths[("main", place)]
        if growth.takes(column_of(powers_of(self.atlas.word_width, self.monomials, state)), source):
            self.events.append((place, len(growth.found) - 1))


def monomials_of(count, degree):
    """Return all monomials of this number of variables."""
    if not fits_bounds(count, 0, MAX_COUNT):
        raise InvalidNumber(count)
    need_degree(degree)
    return all_monomials(count, degree)


def form_basis(program, point, degree):
    """Return the basis of all forms that are invariants at the point."""
    atlas = charted_without_calls(program)
    need_point(atlas, point)
    need_degree(degree)
    powers = [vector for _, vector in columns_at(climbed(atlas, degree), point)]
    return kernel(atlas.word_width, form_size(atlas, point[0], degree), powers)


def is_form_invariant(program, point, degree, value):
    """Return whether the value is a form that is an invariant at the point."""
    atlas = charted_without_calls(program)
    need_point(atlas, point)
    need_degree(degree)
    if not fits_form(atlas, point[0], degree, value):
        return False
    return breaking_number(climbed(atlas, degree), point, value) is None


def breaking_run(program, point, degree, form):
    """Return a run to the point on whose state the value of the form is not 0, or None if there is none."""
    atlas = charted_without_calls(program)
    need_point(atlas, point)
    need_degree(degree)
    need_form(atlas, point[0], degree, form)
    climb = climbed(atlas, degree)
    number = breaking_number(climb, point, form)
    if number is None:
        return None
    return moves_to(climb, point, number)


def is_breaking_run(program, point, degree, form, value):
    """Return whether the value is a run to the point on whose state the value of the form is not 0."""
    atlas = charted_without_calls(program)
    need_point(atlas, point)
    need_degree(degree)
    need_form(atlas, point[0], degree, form)
    course = course_along(atlas, value)
    if course is None or point_now(course) != point:
        return False
    powers = powers_of(atlas.word_width, monomials_for(atlas, point[0], degree), state_now(course))
    return dot(atlas.word_width, form, powers) != 0


def least_form_table(program, degree):
    """Return the least closed form table."""
    atlas = charted_without_calls(program)
    need_degree(degree)
    return {point: growth.basis_now() for point, growth in climbed(atlas, degree).growths.items()}


def is_closed_form_table(program, degree, value):
    """Return whether the value is a closed form table."""
    atlas = charted_without_calls(program)
    need_degree(degree)
    if not fits_form_table(atlas, degree, value):
        return False
    width, chart = atlas.word_width, atlas.charts["main"]
    monomials = monomials_for(atlas, "main", degree)
    if not spans(width, value[("main", (0,))], powers_of(width, monomials, unit(chart.state_size, 0))):
        return False
    for place, node in chart.nodes.items():
        behind = images(atlas, degree, node, value[("main", place)])
        for new_place in node.exits:
            if not all([spans(width, value[("main", new_place)], vector) for vector in behind]):
                return False
    return True


def charted_without_calls(value):
    """Return the atlas of the program; raise InvalidProgram if the value is none, or if it contains a call."""
    atlas = charted(value)
    for chart in atlas.charts.values():
        if any([node.kind == "call" for node in chart.nodes.values()]):
            raise InvalidProgram("the program contains a call")
    return atlas


def need_degree(value):
    """Raise InvalidNumber if the value is not a degree."""
    if not fits_bounds(value, 2, 3):
        raise InvalidNumber(value)


def monomials_for(atlas, name, degree):
    """Return the monomials of the variables of the procedure."""
    return all_monomials(atlas.charts[name].state_size - 1, degree)


def form_size(atlas, name, degree):
    """Return the size of the forms for the procedure."""
    return len(monomials_for(atlas, name, degree))


def fits_form(atlas, name, degree, value):
    """Return whether the value is a form for the procedure."""
    return fits_vector(atlas.word_width, form_size(atlas, name, degree), value)


def need_form(atlas, name, degree, value):
    """Raise InvalidVector if the value is not a form for the procedure."""
    if not fits_form(atlas, name, degree, value):
        raise InvalidVector(f"a form for {name} is a vector of size {form_size(atlas, name, degree)}")


def fits_form_table(atlas, degree, value):
    """Return whether the value is a dict from exactly the points of main to bases, closed or not."""
    if not isinstance(value, dict) or len(value) != len(atlas.charts["main"].nodes):
        return False
    size = form_size(atlas, "main", degree)
    for point, basis in value.items():
        if not fits_point(atlas, point) or point[0] != "main" or not fits_basis(atlas.word_width, size, basis):
            return False
    return True


def climbed(atlas, degree):
    """Return the climb, complete."""
    climb = Climb(atlas, degree)
    size = atlas.charts["main"].state_size
    climb.reach((0,), unit(size, 0), None)
    done = 0
    while done < len(climb.events):
        place, index = climb.events[done]
        node = atlas.charts["main"].nodes[place]
        # The first monomials are 1 and the variables, so the first powers are the state itself.
        state = climb.growths[("main", place)].found[index][:size]
        moves = some_words(atlas.word_width, degree) if node.kind == "input" else tuple(range(len(node.exits)))
        for move in moves:
            climb.reach(led_to(node, move), flat(after_step(atlas, node, state, move)), (place, index, move))
        done += 1
    return climb


def columns_at(climb, point):
    """Return the pairs of the number of a column at the point and of its vector; they span those of all runs."""
    if point not in climb.growths:
        return []
    growth = climb.growths[point]
    return [(number, flat(growth.found[number])) for number in growth.few]


def breaking_number(climb, point, form):
    """Return the number of a column at the point on which the form is not 0, or None."""
    for number, powers in columns_at(climb, point):
        if dot(climb.atlas.word_width, form, powers) != 0:
            return number
    return None


def images(atlas, degree, node, vectors):
    """Return the list of what the steps at the node of main make of the vectors."""
    size = atlas.charts["main"].state_size
    matrices = substitutions(atlas.word_width, degree, size, node)
    if not matrices:
        return list(vectors)
    return [times_vector(atlas.word_width, matrix, vector) for matrix in matrices for vector in vectors]
