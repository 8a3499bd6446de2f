"""What the document says about places, steps, runs, trails and calls, in the plainest words, and slowly."""
from tests import brute


def state_bits(program):
    """The most bits that the variables of a procedure have together."""
    return max(program[0] * (state_size(program, name) - 1) for name in names(program))


def procedure(program, name):
    return next(entry for entry in program[2] if entry[0] == name)


def names(program):
    return [entry[0] for entry in program[2]]


def variables(program, name):
    return program[1] + procedure(program, name)[1] + procedure(program, name)[2]


def state_size(program, name):
    return 1 + len(variables(program, name))


def entry_size(program, name):
    return 1 + len(program[1]) + len(procedure(program, name)[1])


def column(program, name, variable):
    return 1 + variables(program, name).index(variable)


def outcome_columns(program, name):
    """The columns of the constant, the globals and the results in states."""
    left = program[1] + procedure(program, name)[3]
    return [0] + [column(program, name, variable) for variable in left]


def walk(block, start=()):
    """The places of a block in the order of the text, each with the statement before which it is, or None."""
    for index, here in enumerate(block):
        yield start + (index,), here
        inner = {"choose": here[1], "repeat": here[1:]}.get(here[0], ())
        for number, part in enumerate(inner):
            yield from walk(part, start + (index, number))
    yield start + (len(block),), None


def places(program, name):
    return [place for place, _ in walk(procedure(program, name)[4])]


def points(program):
    return [(name, place) for name in names(program) for place in places(program, name)]


def exit_of(program, name):
    return (len(procedure(program, name)[4]),)


def statement(program, point):
    """The statement before which the point is, or None, by going down from block to block."""
    name, place = point
    block = procedure(program, name)[4]
    for at in range(0, len(place) - 1, 2):
        here = block[place[at]]
        block = here[1][place[at + 1]] if here[0] == "choose" else here[1]
    return block[place[-1]] if place[-1] < len(block) else None


def kind(program, point):
    """The word of the statement, or "end" or "exit"."""
    here = statement(program, point)
    return here[0] if here else "exit" if len(point[1]) == 1 else "end"


def next_of(place):
    return place[:-1] + (place[-1] + 1,)


def next_place(program, point, move):
    """The place to which the step leads, for a call the place behind it, or None if there is no such step."""
    name, place = point
    here = statement(program, point)
    if type(move) is not int:
        return None
    if here is None:
        if len(place) == 1 or move != 0:
            return None
        outer = place[:-2]
        return outer if statement(program, (name, outer))[0] == "repeat" else next_of(outer)
    if here[0] == "input":
        return next_of(place) if 0 <= move < 2 ** program[0] else None
    if here[0] == "choose":
        return place + (move, 0) if 0 <= move < len(here[1]) else None
    if here[0] == "repeat":
        return {0: next_of(place), 1: place + (0, 0)}.get(move)
    return next_of(place) if move == 0 else None


def moves_at(program, point, inputs=None):
    """All moves at a point, at an input all words or these, at a call 0, at an exit none."""
    if kind(program, point) == "input":
        return list(range(2 ** program[0]) if inputs is None else inputs)
    return [move for move in range(5) if next_place(program, point, move) is not None]


def new_state(program, point, state, move):
    """The state behind a step within a frame."""
    here = statement(program, point)
    new = list(state)
    if here and here[0] == "set":
        new[column(program, point[0], here[1])] = brute.dot(program[0], here[2], state)
    if here and here[0] == "input":
        new[column(program, point[0], here[1])] = move
    return tuple(new)


def called_entry(program, point, state):
    """The entry with which the call at the point begins."""
    words = tuple(brute.dot(program[0], row, state) for row in statement(program, point)[3])
    return state[:1 + len(program[1])] + words


def with_locals(program, name, entry):
    return entry + (0,) * len(procedure(program, name)[2])


def returned_state(program, point, state, last):
    """The caller's state behind the call at the point, when the callee's state at its exit is the last one."""
    _, targets, callee, _ = statement(program, point)
    table = dict(zip(variables(program, point[0]), state[1:]))
    left = dict(zip(variables(program, callee), last[1:]))
    table.update((variable, left[variable]) for variable in program[1])
    table.update((target, left[result]) for target, result in zip(targets, procedure(program, callee)[3]))
    return (1,) + tuple(table[variable] for variable in variables(program, point[0]))


# Configurations and runs.

def first_configuration(program):
    return (0,) * len(program[1]), (("main", (0,), (0,) * len(procedure(program, "main")[2])),)


def state_of(found):
    shared, frames = found
    return (1,) + shared + frames[-1][2]


def point_of(found):
    return found[1][-1][:2]


def frames_with(program, below, name, place, state):
    """The configuration with these frames below and this current one."""
    many = 1 + len(program[1])
    return state[1:many], below + ((name, place, state[many:]),)


def after(program, found, move):
    """The configuration after a step, or None if there is no such step."""
    below, point, state = found[1][:-1], point_of(found), state_of(found)
    if kind(program, point) == "exit":
        if not below or type(move) is not int or move != 0:
            return None
        caller = below[-1][:2]
        new = returned_state(program, caller, state[:1 + len(program[1])] + below[-1][2], state)
        return frames_with(program, below[:-1], caller[0], next_of(caller[1]), new)
    place = next_place(program, point, move)
    if place is None:
        return None
    if kind(program, point) == "call":
        callee = statement(program, point)[2]
        entry = called_entry(program, point, state)
        return frames_with(program, found[1], callee, (0,), with_locals(program, callee, entry))
    return frames_with(program, below, point[0], place, new_state(program, point, state, move))


def configuration(program, run, start=None):
    """The configuration after a run, or None if the value is no run."""
    if type(run) is not tuple:
        return None
    found = start or first_configuration(program)
    for move in run:
        found = after(program, found, move)
        if found is None:
            return None
    return found


def runs(program, length, inputs):
    """All runs of a length, by a search."""
    layer = [((), first_configuration(program))]
    for _ in range(length):
        layer = [
            (run + (move,), after(program, old, move)) for run, old in layer
            for move in moves_at(program, point_of(old), inputs) or [0] if after(program, old, move)
        ]
    return [run for run, _ in layer]


# Trails and ways.

def moves_lead(program, name, moves, callees):
    """The place to which moves of one frame lead, or None; the callees are the procedures of the pieces."""
    if type(moves) is not tuple:
        return None
    place = (0,)
    for move in moves:
        if kind(program, (name, place)) == "call":
            right = type(move) is int and 0 <= move < len(callees)
            right = right and callees[move] == statement(program, (name, place))[2]
            place = next_of(place) if right else None
        else:
            place = next_place(program, (name, place), move)
        if place is None:
            return None
    return place


def are_pieces(program, value):
    if type(value) is not tuple:
        return False
    callees = []
    for piece in value:
        if type(piece) is not tuple or len(piece) != 2 or type(piece[0]) is not str or piece[0] not in names(program):
            return False
        if moves_lead(program, piece[0], piece[1], callees) != exit_of(program, piece[0]):
            return False
        callees.append(piece[0])
    return True


def frames_lead(program, pieces, frames):
    """The list of the points to which the frames lead, or None."""
    if type(frames) is not tuple or not frames:
        return None
    found = []
    for moves in frames:
        if found and kind(program, found[-1]) != "call":
            return None
        name = statement(program, found[-1])[2] if found else "main"
        place = moves_lead(program, name, moves, [piece[0] for piece in pieces])
        if place is None:
            return None
        found.append((name, place))
    return found


def is_trail(program, value):
    if type(value) is not tuple or len(value) != 2:
        return False
    return are_pieces(program, value[0]) and frames_lead(program, *value) is not None


def is_way(program, point, value):
    if type(value) is not tuple or len(value) != 2 or not are_pieces(program, value[0]):
        return False
    return moves_lead(program, point[0], value[1], [piece[0] for piece in value[0]]) == point[1]


def spelled_moves(program, pieces, name, moves):
    """The steps for which moves of one frame stand."""
    place = (0,)
    for move in moves:
        if kind(program, (name, place)) == "call":
            yield 0
            yield from spelled_moves(program, pieces, *pieces[move])
            yield 0
            place = next_of(place)
        else:
            yield move
            place = next_place(program, (name, place), move)


def spelled(program, trail):
    pieces, frames = trail
    parts = [
        tuple(spelled_moves(program, pieces, name, moves))
        for (name, _), moves in zip(frames_lead(program, pieces, frames), frames)
    ]
    return parts[0] + tuple(move for part in parts[1:] for move in (0,) + part)


def trail_end(program, trail):
    """The point and the state of a trail, by plain steps."""
    found = configuration(program, spelled(program, trail))
    return point_of(found), state_of(found)


def way_end(program, name, way, entry):
    """The point and the state of a way from an entry, by plain steps."""
    start = frames_with(program, (), name, (0,), with_locals(program, name, entry))
    found = configuration(program, tuple(spelled_moves(program, way[0], name, way[1])), start)
    return point_of(found), state_of(found)


class Reached:
    """By a search: for each point all pairs of an entry of its procedure and a state that is reached from there.

    The search begins with the given pairs of a procedure and an entry, and goes on into what is called. What a
    procedure makes of one entry is found only once.
    """

    def __init__(self, program, starts):
        self.program = program
        self.pairs = {point: set() for point in points(program)}
        self.callers = {}
        self.ends = {}
        self.pending = []
        for name, entry in starts:
            self.enter(name, entry)
        while self.pending:
            self.go_on(*self.pending.pop())

    def enter(self, name, entry):
        self.put((name, (0,)), entry, with_locals(self.program, name, entry))

    def put(self, point, entry, state):
        if (entry, state) not in self.pairs[point]:
            self.pairs[point].add((entry, state))
            self.pending.append((point, entry, state))

    def go_on(self, point, entry, state):
        name, place = point
        if kind(self.program, point) == "exit":
            self.ends.setdefault((name, entry), []).append(state)
            for caller in self.callers.get((name, entry), []):
                self.go_behind(caller, state)
        elif kind(self.program, point) == "call":
            callee = statement(self.program, point)[2]
            new = called_entry(self.program, point, state)
            self.callers.setdefault((callee, new), []).append((point, entry, state))
            self.enter(callee, new)
            for last in list(self.ends.get((callee, new), [])):
                self.go_behind((point, entry, state), last)
        else:
            for move in moves_at(self.program, point):
                behind = (name, next_place(self.program, point, move))
                self.put(behind, entry, new_state(self.program, point, state, move))

    def go_behind(self, caller, last):
        (name, place), entry, state = caller
        self.put((name, next_of(place)), entry, returned_state(self.program, (name, place), state, last))

    def states(self, point):
        return {state for _, state in self.pairs[point]}

    def entries(self, name):
        """All entries with which the procedure is entered."""
        return {entry for entry, _ in self.pairs[(name, (0,))]}

    def calls(self, name):
        """The vectors of all finished calls."""
        columns = outcome_columns(self.program, name)[1:]
        found = self.pairs[(name, exit_of(self.program, name))]
        return {entry + tuple(state[at] for at in columns) for entry, state in found}


def reached_by_runs(program):
    return Reached(program, [("main", (1,) + (0,) * len(program[1]))])


def all_entries(program, name):
    return [(1,) + words for words in brute.all_vectors(program[0], entry_size(program, name) - 1)]


def reached_from_anywhere(program):
    return Reached(program, [(name, entry) for name in names(program) for entry in all_entries(program, name)])


# Transforms.

def times(width, first, second):
    return tuple(tuple(brute.dot(width, row, part) for part in zip(*second)) for row in first)


def flat(matrix):
    return tuple(entry for row in matrix for entry in row)


def first_matrix(program, name):
    many = entry_size(program, name)
    rows = [tuple(int(at == place) for at in range(many)) for place in range(many)]
    return tuple(rows + [(0,) * many] * (state_size(program, name) - many))


def put_row(matrix, index, row):
    return matrix[:index] + (row,) + matrix[index + 1:]


def outcome(program, name, matrix):
    return tuple(matrix[at] for at in outcome_columns(program, name))


def matrices_behind(program, point, matrix, outcomes, words=None):
    """The pairs of a place to which a step leads and a matrix that it has by [8.2] or, with all words, by [8.1].

    The outcomes are a dict from names to the matrices of the outcome modules that are to be tried at calls.
    """
    name, place = point
    width, here = program[0], statement(program, point)
    if kind(program, point) == "exit":
        return []
    if kind(program, point) == "call":
        return [(next_of(place), behind_call(program, point, matrix, found)) for found in outcomes[here[2]]]
    if kind(program, point) == "set":
        at = column(program, name, here[1])
        return [(next_of(place), put_row(matrix, at, times(width, (here[2],), matrix)[0]))]
    if kind(program, point) == "input":
        at = column(program, name, here[1])
        return [
            (next_of(place), put_row(matrix, at, brute.times(width, matrix[0], word))) for word in words or (0, 1)
        ]
    return [(next_place(program, point, move), matrix) for move in moves_at(program, point)]


def behind_call(program, point, matrix, found):
    """The last rule of [8.2], word for word."""
    width, many = program[0], len(program[1])
    _, targets, callee, arguments = statement(program, point)
    factor = found[0][0]
    entry = (matrix[0],) + matrix[1:1 + many] + times(width, arguments, matrix)
    product = times(width, found, entry)
    rows = {at: brute.times(width, row, factor) for at, row in enumerate(matrix)}
    for at in range(many):
        rows[1 + at] = product[1 + at]
    for at, target in enumerate(targets):
        rows[column(program, point[0], target)] = product[1 + many + at]
    return tuple(rows[at] for at in range(len(matrix)))


def all_matrices(program, limit):
    """For each point the set of the matrices of all runs within its procedure, or None if there are too many."""
    found = {point: set() for point in points(program)}
    outcomes = {name: set() for name in names(program)}
    pending = []

    def put(point, matrix):
        if matrix not in found[point]:
            found[point].add(matrix)
            pending.append((point, matrix))

    for name in names(program):
        put((name, (0,)), first_matrix(program, name))
    words = range(2 ** program[0])
    while pending:
        if sum(map(len, found.values())) > limit:
            return None
        point, matrix = pending.pop()
        name = point[0]
        if kind(program, point) == "exit":
            new = outcome(program, name, matrix)
            if new in outcomes[name]:
                continue
            outcomes[name].add(new)
            for caller in points(program):
                if kind(program, caller) == "call" and statement(program, caller)[2] == name:
                    for before in list(found[caller]):
                        put((caller[0], next_of(caller[1])), behind_call(program, caller, before, new))
        else:
            for place, behind in matrices_behind(program, point, matrix, outcomes, words):
                put((name, place), behind)
    return found
