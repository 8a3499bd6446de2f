"""How many steps can still follow, wherever a run is.

Which moves are possible depends on places alone, so this is the same for all values of the variables.
"""
from wordlaws.code.charts import all_points, node_at


class Outlook:
    """For each point two numbers of steps, both counted up to a limit.

    Those of `stays` are the most steps that can follow while the frame is there. Those of `ends` are the most steps
    to the exit of the procedure, or -1 if no steps lead there.
    """

    def __init__(self, atlas, limit):
        self.atlas = atlas
        self.limit = limit
        self.stays = {point: 0 for point in all_points(atlas)}
        self.ends = {point: -1 for point in all_points(atlas)}
        grown = True
        while grown:
            grown = False
            for point in reversed(list(self.stays)):
                if look_on(self, point):
                    grown = True


def look_on(outlook, point):
    """Correct the two numbers of the point by those of the points behind it; return whether they have grown."""
    node = node_at(outlook.atlas, point)
    stay, end = outlook.stays[point], outlook.ends[point]
    if node.kind == "exit":
        end = 0
    elif node.kind == "call":
        entry, behind = (node.callee, (0,)), (point[0], node.exits[0])
        stay = max(stay, 1 + outlook.stays[entry])
        if outlook.ends[entry] >= 0:
            passing = 2 + outlook.ends[entry]
            stay = max(stay, passing + outlook.stays[behind])
            end = max(end, together(passing, outlook.ends[behind]))
    else:
        for place in node.exits:
            stay = max(stay, 1 + outlook.stays[(point[0], place)])
            end = max(end, together(1, outlook.ends[(point[0], place)]))
    found = (min(stay, outlook.limit), min(end, outlook.limit))
    grown = found != (outlook.stays[point], outlook.ends[point])
    outlook.stays[point], outlook.ends[point] = found
    return grown


def together(first, rest):
    """Return the sum of two numbers of steps, or -1 if the rest leads nowhere."""
    return first + rest if rest >= 0 else -1


def most_steps(outlook, frames):
    """Return the most steps that can follow when these are the frames; beyond the limit the number is not exact."""
    most = -1
    for name, place, _ in frames[:-1]:
        behind = outlook.atlas.charts[name].nodes[place].exits[0]
        most = most_from(outlook, (name, behind), most)
    return most_from(outlook, frames[-1][:2], most)


def most_from(outlook, point, most):
    """Return the most steps from the point when `most` can follow once the frame is removed, or -1 if it is main's."""
    stay, end = outlook.stays[point], outlook.ends[point]
    if most < 0 or end < 0:
        return stay
    return max(stay, end + 1 + most)
