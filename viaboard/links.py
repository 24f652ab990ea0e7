"""Links between bars, the parts that they make, and the ring that keeps every row from being right.

A link is its first end, its second end, and 1 if these must be unlike, 0 if alike.
The ground is the number behind all bars.
"""

from viaboard.wire import bar_starts

GROUND_LAYER = 1


class Parts:
    """What follows from the links, taken in order as far as one row can keep them all.

    heads and sides tell, for each bar and the ground, its part's head and 1 if it lies on the other layer, else 0.
    broken is the place of the first link that can't be kept, or -1.
    """

    def __init__(self, size, links):
        self.heads = list(range(size))
        self.sides = [0] * size
        self.members = [[k] for k in range(size)]
        self.broken = -1
        for place, link in enumerate(links):
            if not self.take(link):
                self.broken = place
                break

    def take(self, link):
        """Joins the parts of the link's ends; False if they are one part, in which it can't be kept."""
        one = self.heads[link[0]]
        two = self.heads[link[1]]
        turned = self.sides[link[0]] ^ self.sides[link[1]] ^ link[2]
        if one == two:
            return turned == 0
        head = min(one, two)
        other = max(one, two)
        for member in self.members[other]:
            self.heads[member] = head
            self.sides[member] = self.sides[member] ^ turned
        self.members[head].extend(self.members[other])
        self.members[other] = []
        return True

    def free_heads(self):
        """The heads of the parts without the ground."""
        ground = len(self.heads) - 1
        return [k for k in range(ground) if self.heads[k] == k and self.heads[ground] != k]


def make_links(wires, conflicts, reasons):
    """All links in order; reasons tell, for each wire, why each corner is barred."""
    starts = bar_starts(wires)
    ground = starts[-1]
    links = [(pair[0], pair[1], 1) for pair in conflicts]
    for k in range(len(wires)):
        barred = [starts[k] + corner for corner, reason in enumerate(reasons[k]) if reason != 0]
        links.extend([(bar, bar + 1, 0) for bar in barred])
    for k, wire in enumerate(wires):
        links.extend([(starts[k] + bar, ground, layer - 1) for bar, layer in enumerate(wire.fixed) if layer != 0])
    return links


def missed_links(links, row):
    """The links that a row of layers doesn't keep."""
    layers = row + [GROUND_LAYER]
    return [link for link in links if abs(layers[link[0]] - layers[link[1]]) != link[2]]


def find_ring(size, links, broken):
    """The ring that the link at the place broken closes; none if broken is -1."""
    if broken == -1:
        return []
    neighbours = [[] for k in range(size)]
    for link in links[:broken]:
        neighbours[link[0]].append(link[1])
        neighbours[link[1]].append(link[0])
    return least_way(neighbours, links[broken][0], links[broken][1])


def least_way(neighbours, start, goal):
    """Of the shortest ways from start to goal, which must be joined, the least."""
    steps = steps_to(neighbours, goal)
    way = [start]
    while way[-1] != goal:
        here = way[-1]
        # The least number at each place gives the least way, for every such number is on a shortest one.
        way.append(min([k for k in neighbours[here] if steps[k] == steps[here] - 1]))
    return way


def steps_to(neighbours, goal):
    """For each number, how many steps lead to the goal at the fewest; -1 if none do."""
    steps = [-1] * len(neighbours)
    steps[goal] = 0
    reached = [goal]
    while len(reached) > 0:
        further = []
        for here in reached:
            for k in neighbours[here]:
                if steps[k] == -1:
                    steps[k] = steps[here] + 1
                    further.append(k)
        reached = further
    return steps
