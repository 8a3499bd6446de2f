"""The entries with which runs enter procedures, and the states to which they lead."""
from wordlaws.code.charts import node_at
from wordlaws.code.effects import column_of, entry_of, flat
from wordlaws.code.rows import times_matrix
from wordlaws.flow.flows import all_pieces, moves_to
from wordlaws.flow.growth import Growth
from wordlaws.modules.echelon import echelon, unit
from wordlaws.runs.pieces import without_unused


class Entrances:
    """For each procedure entries of runs that span its entry module, as matrices of one column.

    The source of an entry is None for that of main; otherwise it is a triple (point, index, number): from the entry
    with the index of the point's procedure, by the matrix with the number of the point, a run comes to this call.
    """

    def __init__(self, flow):
        self.flow = flow
        self.entries = {name: Growth(flow.atlas.word_width) for name in flow.atlas.charts}
        self.events = []

    def reach(self, name, entry, source):
        """Note that some run enters the procedure with this entry."""
        if self.entries[name].takes(entry, source):
            self.events.append((name, len(self.entries[name].found) - 1))


def entrances_of(flow):
    """Return the entrances, complete."""
    entrances = Entrances(flow)
    entrances.reach("main", column_of(unit(1 + flow.atlas.many_shared, 0)), None)
    done = 0
    while done < len(entrances.events):
        name, index = entrances.events[done]
        for place, node in flow.atlas.charts[name].nodes.items():
            if node.kind == "call":
                enter_callee(entrances, (name, place), index)
        done += 1
    return entrances


def enter_callee(entrances, point, index):
    """Note the entries with which runs that entered the point's procedure by this entry make the call at the point."""
    flow = entrances.flow
    node = node_at(flow.atlas, point)
    entry = entrances.entries[point[0]].found[index]
    for number in list(flow.growths[point].few):
        state = times_matrix(flow.atlas.word_width, flow.growths[point].found[number], entry)
        entrances.reach(node.callee, entry_of(flow.atlas, node, state), (point, index, number))


def states_at(entrances, point):
    """Return the list of the pairs of a state of a run to the point and of what leads there.

    The states span the state module. What leads there is a pair (index, number): the run enters the point's procedure
    by the entry with the index, and then has the matrix with the number.
    """
    growth = entrances.flow.growths[point]
    entries = entrances.entries[point[0]]
    found = []
    for index in entries.few:
        for number in growth.few:
            state = times_matrix(growth.word_width, growth.found[number], entries.found[index])
            found.append((flat(state), (index, number)))
    return found


def state_module(entrances, point):
    """Return the basis of the state module of the point."""
    return echelon(entrances.flow.atlas.word_width, [state for state, _ in states_at(entrances, point)])


def runs_to(entrances, point, pair):
    """Return the list of the frames of the run to the point to which the pair of `states_at` belongs.

    Each frame is a pair of the name of its procedure and of its moves.
    """
    runs = []
    source = (point,) + pair
    while source is not None:
        point, index, number = source
        runs.append((point[0], moves_to(entrances.flow, point, number)))
        source = entrances.entries[point[0]].sources[index]
    return runs[::-1]


def trail_to(entrances, point, pair):
    """Return the trail of the run to the point to which the pair of `states_at` belongs."""
    flow = entrances.flow
    pieces, frames = without_unused(flow.atlas, all_pieces(flow), runs_to(entrances, point, pair))
    return pieces, tuple(frames)
