"""One wire: its net, its radius, its points, and what is asked of its bars and corners."""

FARTHEST = 1000000000
FEWEST_POINTS = 2
MOST_POINTS = 16


class Wire:
    """A wire whose corners cost 1 and whose bars aren't fixed; no two wires of a board have one serial number."""

    def __init__(self, serial, net, radius, points):
        self.serial = serial
        self.net = net
        self.radius = radius
        self.points = points
        self.fixed = [0] * (len(points) - 1)
        self.prices = [1] * (len(points) - 2)


def in_plane(point):
    """Whether both numbers of a point are in range."""
    return -FARTHEST <= point[0] <= FARTHEST and -FARTHEST <= point[1] <= FARTHEST


def read_points(row):
    """The points of a row of x and y in turn, or None if a wire can't have them."""
    if len(row) % 2 == 1 or not FEWEST_POINTS <= len(row) // 2 <= MOST_POINTS:
        return None
    points = [(row[k], row[k + 1]) for k in range(0, len(row), 2)]
    for k, point in enumerate(points):
        if not in_plane(point) or (k > 0 and point == points[k - 1]):
            return None
    return points


def bar_starts(wires):
    """The number, among all bars, of each wire's first bar; behind these, how many bars there are."""
    starts = [0]
    for wire in wires:
        starts.append(starts[-1] + len(wire.fixed))
    return starts
