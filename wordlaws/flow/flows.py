"""The transforms of all points of a program, with the runs that have them."""
from wordlaws.code.charts import all_points, led_to, node_at
from wordlaws.code.effects import after_call, after_step, first_matrix, outcome_of, spanning_moves
from wordlaws.flow.growth import Growth


class Flow:
    """For each point matrices of runs that span its transform module, and for each procedure outcome matrices.

    The source of a matrix is None at the beginning of a run; otherwise it is a triple (place, index, move): from the
    matrix with this index of this place the move leads to it. The source of an outcome matrix is the number of its
    piece. For each piece `finished` has the name of the procedure and the index of the matrix at its exit.
    """

    def __init__(self, atlas):
        self.atlas = atlas
        self.growths = {point: Growth(atlas.word_width) for point in all_points(atlas)}
        self.outcomes = {name: Growth(atlas.word_width) for name in atlas.charts}
        self.finished = []
        self.events = []
        self.callers = {name: [] for name in atlas.charts}
        for point in all_points(atlas):
            node = node_at(atlas, point)
            if node.kind == "call":
                self.callers[node.callee].append(point)

    def reach(self, point, matrix, source):
        """Note that some run has this matrix at the point."""
        if self.growths[point].takes(matrix, source):
            self.events.append((point, len(self.growths[point].found) - 1))


def flow_of(atlas):
    """Return the flow, complete."""
    flow = Flow(atlas)
    for name, chart in atlas.charts.items():
        flow.reach((name, (0,)), first_matrix(chart), None)
    done = 0
    while done < len(flow.events):
        point, index = flow.events[done]
        spread(flow, point, index)
        done += 1
    return flow


def spread(flow, point, index):
    """Do all steps from a matrix of the point."""
    name, place = point
    node = node_at(flow.atlas, point)
    matrix = flow.growths[point].found[index]
    if node.kind == "exit":
        finish(flow, name, index)
    elif node.kind == "call":
        for which in list(flow.outcomes[node.callee].few):
            pass_call(flow, point, index, which)
    else:
        for move in spanning_moves(node):
            behind = (name, led_to(node, move))
            flow.reach(behind, after_step(flow.atlas, node, matrix, move), (place, index, move))


def finish(flow, name, index):
    """Note what the runs do that have this matrix at the exit, and let the callers pass their calls by them."""
    chart = flow.atlas.charts[name]
    outcomes = flow.outcomes[name]
    matrix = flow.growths[(name, chart.last)].found[index]
    if not outcomes.takes(outcome_of(chart, matrix), len(flow.finished)):
        return
    flow.finished.append((name, index))
    for point in flow.callers[name]:
        for before in list(flow.growths[point].few):
            pass_call(flow, point, before, len(outcomes.found) - 1)


def pass_call(flow, point, index, which):
    """Go on from a matrix of the point, which is before a call, by one of the callee's outcome matrices."""
    name, place = point
    node = node_at(flow.atlas, point)
    outcomes = flow.outcomes[node.callee]
    behind = after_call(flow.atlas, node, flow.growths[point].found[index], outcomes.found[which])
    flow.reach((name, node.exits[0]), behind, (place, index, outcomes.sources[which]))


def moves_to(flow, point, index):
    """Return the moves, with numbers of pieces, from the entry to the point that have this matrix there."""
    name, _ = point
    moves = []
    source = flow.growths[point].sources[index]
    while source is not None:
        place, before, move = source
        moves.append(move)
        source = flow.growths[(name, place)].sources[before]
    return tuple(moves[::-1])


def all_pieces(flow):
    """Return the pieces of all outcome matrices."""
    return tuple([
        (name, moves_to(flow, (name, flow.atlas.charts[name].last), index)) for name, index in flow.finished
    ])
