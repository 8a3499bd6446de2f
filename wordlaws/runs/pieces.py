"""Pieces of runs, and the moves of single frames that pass calls by them.

Only the functions called fits_.. check anything.
"""
from wordlaws.base.words import fits_bounds
from wordlaws.code.charts import fits_move, led_to
from wordlaws.code.effects import after_call, after_step, first_matrix, outcome_of


def fits_pieces(atlas, value):
    """Return whether the value is a tuple of pieces."""
    if not isinstance(value, tuple):
        return False
    names = []
    for piece in value:
        if not isinstance(piece, tuple) or len(piece) != 2:
            return False
        name, moves = piece
        if not isinstance(name, str) or name not in atlas.charts:
            return False
        # Calls name earlier pieces only, so the names so far are all that is there.
        if place_reached(atlas, name, moves, names) != atlas.charts[name].last:
            return False
        names.append(name)
    return True


def place_reached(atlas, name, value, names):
    """Return the place to which the moves lead from the entry, or None if the value is not a tuple of such moves.

    The names are those of the procedures of the pieces by which calls can be passed.
    """
    if not isinstance(value, tuple):
        return None
    chart = atlas.charts[name]
    place = (0,)
    for move in value:
        node = chart.nodes[place]
        if node.kind == "call":
            if not fits_bounds(move, 0, len(names) - 1) or names[move] != node.callee:
                return None
        elif not fits_move(atlas.word_width, node, move):
            return None
        place = led_to(node, move)
    return place


def marked_moves(chart, moves):
    """Return the list of the pairs of a move and whether it is the number of a piece."""
    place = (0,)
    found = []
    for move in moves:
        node = chart.nodes[place]
        found.append((move, node.kind == "call"))
        place = led_to(node, move)
    return found


def followed(atlas, name, matrix, moves, outcomes):
    """Return the pair of the place to which the moves lead from the entry and of what the matrix is there.

    The outcomes are the outcome matrices of the pieces.
    """
    chart = atlas.charts[name]
    place = (0,)
    for move in moves:
        node = chart.nodes[place]
        if node.kind == "call":
            matrix = after_call(atlas, node, matrix, outcomes[move])
        else:
            matrix = after_step(atlas, node, matrix, move)
        place = led_to(node, move)
    return place, matrix


def outcomes_of(atlas, pieces):
    """Return the list of the outcome matrices of the pieces."""
    outcomes = []
    for name, moves in pieces:
        chart = atlas.charts[name]
        _, matrix = followed(atlas, name, first_matrix(chart), moves, outcomes)
        outcomes.append(outcome_of(chart, matrix))
    return outcomes


def lengths_of(atlas, pieces):
    """Return the list of the numbers of steps for which the pieces stand."""
    lengths = []
    for name, moves in pieces:
        lengths.append(length_of(atlas.charts[name], moves, lengths))
    return lengths


def length_of(chart, moves, lengths):
    """Return the number of steps for which the moves stand: a call has one more before its piece and one behind it."""
    return sum([2 + lengths[move] if passes else 1 for move, passes in marked_moves(chart, moves)])


def spelled(atlas, pieces, name, moves):
    """Return the list of the steps for which the moves stand."""
    steps = []
    untold = marked_moves(atlas.charts[name], moves)[::-1]
    while untold:
        move, passes = untold.pop()
        if not passes:
            steps.append(move)
            continue
        steps.append(0)
        untold.append((0, False))
        inner, inner_moves = pieces[move]
        untold.extend(marked_moves(atlas.charts[inner], inner_moves)[::-1])
    return steps


def used_pieces(chart, moves):
    """Return the list of the numbers of pieces among the moves."""
    return [move for move, passes in marked_moves(chart, moves) if passes]


def renumbered(chart, moves, numbers):
    """Return the moves with new numbers of pieces, from a dict."""
    return tuple([numbers[move] if passes else move for move, passes in marked_moves(chart, moves)])


def needed_pieces(atlas, pieces, wanted):
    """Return those pieces that the wanted ones use, themselves included, and a dict from old to new numbers."""
    needed = {number: True for number in wanted}
    for number in reversed(range(len(pieces))):
        if number in needed:
            name, moves = pieces[number]
            for other in used_pieces(atlas.charts[name], moves):
                needed[other] = True
    numbers = {old: new for new, old in enumerate(sorted(list(needed)))}
    kept = []
    for old in numbers:
        name, moves = pieces[old]
        kept.append((name, renumbered(atlas.charts[name], moves, numbers)))
    return tuple(kept), numbers


def without_unused(atlas, pieces, runs):
    """Return the pieces that the runs use, and the list of the moves of the runs with the new numbers.

    Each run is a pair of the name of a procedure and of moves from its entry.
    """
    wanted = [number for name, moves in runs for number in used_pieces(atlas.charts[name], moves)]
    kept, numbers = needed_pieces(atlas, pieces, wanted)
    return kept, [renumbered(atlas.charts[name], moves, numbers) for name, moves in runs]
