"""A shell: a workshop that understands commands."""
from wordlaws.code.programs import fits_name
from wordlaws.errors import InvalidCommand, ParseError
from wordlaws.facts.facts import endless_procedures, unreachable_points
from wordlaws.invariants.invariants import breaking_trail
from wordlaws.shop.edits import Put, Replace, Take
from wordlaws.shop.workshop import Workshop
from wordlaws.text.formats import parse_point, parse_program, parse_row, parsed_statement, point_text, program_text
from wordlaws.text.formats import row_text, trail_text, variables_in
from wordlaws.text.reading import has_digits
from wordlaws.text.writing import written_names

# More steps than this can never have been done, and Python refuses to read numbers of thousands of digits.
MANY_DIGITS = 18
MANY_STEPS = 1000000000000000000


def run_text(workshop):
    """Return the text of the program."""
    return program_text(workshop.program)


def run_unreachable(workshop):
    """Return the unreachable points."""
    return listed([point_text(workshop.program, point) for point in unreachable_points(workshop.program)])


def run_endless(workshop):
    """Return the endless procedures."""
    return listed(endless_procedures(workshop.program))


def run_invariants(workshop, rest):
    """Return the invariant basis of the point."""
    point = parse_point(workshop.program, rest)
    return listed([row_text(workshop.program, point[0], row) for row in workshop.invariant_basis(point)])


def run_contracts(workshop, rest):
    """Return the basis of the contracts of the procedure."""
    return listed([spaced(contract) for contract in workshop.contract_basis(parsed_name(rest))])


def run_observed(workshop, rest):
    """Return the basis of the observed contracts of the procedure."""
    return listed([spaced(contract) for contract in workshop.contract_basis(parsed_name(rest), observed=True)])


def run_take(workshop, rest):
    """Take the statement at the point away, and return the news."""
    return told(workshop.do(Take(parse_point(workshop.program, rest))))


def run_undo(workshop, rest):
    """Take back so many steps, and return the news."""
    return told(workshop.undo(many=parsed_count(rest)))


def run_unwatch(workshop, rest):
    """Remove the watch."""
    workshop.unwatch(parsed_name(rest))
    return "ok"


def run_status(workshop, rest):
    """Return the status of the watch."""
    return workshop.status(parsed_name(rest))


def run_invariant(workshop, before, behind):
    """Return that the row is an invariant at the point, or the text of a trail that breaks it."""
    point, row = parsed_row(workshop, before, behind)
    trail = breaking_trail(workshop.program, point, row)
    if trail is None:
        return "invariant"
    return trail_text(workshop.program, trail)


def run_bits(workshop, before, behind):
    """Return how many low bits the values of the row have in common, and these bits."""
    point, row = parsed_row(workshop, before, behind)
    return spaced(workshop.same_bits(point, row))


def run_fewest(workshop, before, behind):
    """Return the names of the fewest variables that determine the row, and an equal row that uses them."""
    point, row = parsed_row(workshop, before, behind)
    numbers, new = workshop.fewest_variables(point, row)
    variables = variables_in(workshop.program, point[0])
    names = written_names([variables[number - 1] for number in numbers])
    return f"{names}: {row_text(workshop.program, point[0], new)}"


def run_put(workshop, before, behind):
    """Put the statement in front of that at the point, and return the news."""
    point = parse_point(workshop.program, before)
    return told(workshop.do(Put(point, parsed_statement(workshop.program, point[0], behind))))


def run_replace(workshop, before, behind):
    """Replace the statement at the point, and return the news."""
    point = parse_point(workshop.program, before)
    return told(workshop.do(Replace(point, parsed_statement(workshop.program, point[0], behind))))


def run_watch(workshop, before, behind):
    """Add a watch, and return its status."""
    name, _, place = before.partition(" ")
    parsed_name(name)
    point, row = parsed_row(workshop, place, behind)
    return workshop.watch(name, point, row)


ALONE = {"endless": run_endless, "text": run_text, "unreachable": run_unreachable}
WITH_REST = {
    "contracts": run_contracts,
    "invariants": run_invariants,
    "observed": run_observed,
    "status": run_status,
    "take": run_take,
    "undo": run_undo,
    "unwatch": run_unwatch,
}
WITH_PARTS = {
    "bits": run_bits,
    "fewest": run_fewest,
    "invariant": run_invariant,
    "put": run_put,
    "replace": run_replace,
    "watch": run_watch,
}


class Shell:
    """A workshop, or none yet, and a count of the commands that were executed without an error."""

    WORDS = (
        "bits", "contracts", "endless", "fewest", "invariant", "invariants", "observed", "program", "put", "replace",
        "status", "take", "text", "undo", "unreachable", "unwatch", "watch",
    )

    def __init__(self):
        self._workshop = None
        self._count = 0

    def run(self, command):
        """Execute the command, and return its result."""
        if not isinstance(command, str):
            raise InvalidCommand("a command is a string")
        first, line_end, text = command.partition("\n")
        if first == "program" and line_end != "":
            self._workshop = Workshop(parse_program(text))
            result = "ok"
        else:
            result = executed(self._workshop, command)
        self._count += 1
        return result

    def run_all(self, *commands):
        """Execute the commands one after another, and return the tuple of their results."""
        return tuple([self.run(command) for command in commands])

    def twin(self):
        """Return a twin of the workshop, or None if there is none."""
        if self._workshop is None:
            return None
        return Workshop.twin_of(self._workshop)

    def __len__(self):
        return len(range(self._count))

    def __str__(self):
        return f"shell after {self._count} commands"


def executed(workshop, command):
    """Return the result of a command that needs a workshop, which may be None."""
    word, blank, rest = command.partition(" ")
    before, colon, behind = rest.partition(": ")
    fits = (
        word in ALONE and blank == ""
        or word in WITH_REST and blank != ""
        or word in WITH_PARTS and colon != ""
    )
    if not fits or workshop is None:
        raise InvalidCommand("this is not a command, or there is no program yet")
    if word in ALONE:
        action = ALONE[word]
        return action(workshop)
    if word in WITH_REST:
        action = WITH_REST[word]
        return action(workshop, rest)
    action = WITH_PARTS[word]
    return action(workshop, before, behind)


def parsed_row(workshop, before, behind):
    """Return the point and the row of its procedure."""
    point = parse_point(workshop.program, before)
    return point, parse_row(workshop.program, point[0], behind)


def parsed_name(text):
    """Return the text; raise ParseError if it is not a name."""
    if not fits_name(text):
        raise ParseError("a name is one to eight letters")
    return text


def parsed_count(text):
    """Return the number of at least 1, or a number that is great enough in the place of one of many digits."""
    if not has_digits(text) or text.startswith("0"):
        raise ParseError("this is not a number of at least 1")
    if len(text) > MANY_DIGITS:
        return MANY_STEPS
    return int(text)


def listed(lines):
    """Return the lines as one text."""
    if not lines:
        return "none"
    return "\n".join(lines)


def told(news):
    """Return the text of the news."""
    if not news:
        return "none"
    return ", ".join([f"{name} {status}" for name, status in news])


def spaced(words):
    """Return the words with blanks between them."""
    return " ".join([str(word) for word in words])
