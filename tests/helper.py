"""What the tests share: calls written out as lists, and a slow, plain reading of the document to compare with."""

from fractions import Fraction

from viaboard.board import answers

BIG = 1000000000
RADIUS = 100000000
LOW = -2147483648
HIGH = 2147483647

CLEAR = [5]
WIRES = [6]
COUNTS = [7]
CONFLICTS = [8]
RING = [10]


def rules(clearance, radius):
    return [0, clearance, radius]


def row_wire(net, radius, row):
    return [1, net, radius, len(row)] + list(row)


def wire(net, radius, *points):
    return row_wire(net, radius, [number for point in points for number in point])


def away(number):
    return [2, number]


def fix(number, bar, layer):
    return [3, number, bar, layer]


def price(number, corner, amount):
    return [4, number, corner, amount]


def corner(number, place):
    return [9, number, place]


def split(numbers):
    """The answers of a line, one list for each call."""
    found = []
    place = 0
    while place < len(numbers):
        end = place + 1 + numbers[place]
        if end > len(numbers):
            raise ValueError("the last answer is cut short")
        found.append(numbers[place + 1:end])
        place = end
    return found


def run(*calls):
    """The answers to the calls, one list for each."""
    found = split(answers([number for call in calls for number in call]))
    if len(found) != len(calls):
        raise ValueError(f"{len(calls)} calls, {len(found)} answers")
    return found


def last(*calls):
    """The answer to the last of the calls."""
    return run(*calls)[-1]


def point_square(p, q):
    return (p[0] - q[0]) ** 2 + (p[1] - q[1]) ** 2


def line_square(p, a, b):
    """The square of the least distance of p and the line from a to b, by its nearest point."""
    along = Fraction((p[0] - a[0]) * (b[0] - a[0]) + (p[1] - a[1]) * (b[1] - a[1]), point_square(a, b))
    along = max(Fraction(0), min(Fraction(1), along))
    return point_square(p, (a[0] + along * (b[0] - a[0]), a[1] + along * (b[1] - a[1])))


def bars_square(a, b, c, d):
    """The square of the least distance of the lines from a to b and from c to d."""
    ends = min(line_square(a, c, d), line_square(b, c, d), line_square(c, a, b), line_square(d, a, b))
    whole = (b[0] - a[0]) * (d[1] - c[1]) - (b[1] - a[1]) * (d[0] - c[0])
    if whole != 0:
        s = Fraction((c[0] - a[0]) * (d[1] - c[1]) - (c[1] - a[1]) * (d[0] - c[0]), whole)
        t = Fraction((c[0] - a[0]) * (b[1] - a[1]) - (c[1] - a[1]) * (b[0] - a[0]), whole)
        if 0 <= s <= 1 and 0 <= t <= 1:
            return Fraction(0)
    return ends


class Model:
    """The document read word by word; nothing is kept from one call to the next but the board itself."""

    def __init__(self):
        self.clearance = 1
        self.via = 1
        self.wires = []

    def bars(self):
        """All bars: net, radius, two points, fixed layer."""
        found = []
        for w in self.wires:
            for k in range(len(w["points"]) - 1):
                found.append((w["net"], w["radius"], w["points"][k], w["points"][k + 1], w["fixed"][k]))
        return found

    def corners(self):
        """All corners: net, point, price, the bar before it, wire, place."""
        found = []
        bar = 0
        for n, w in enumerate(self.wires):
            for k in range(len(w["points"]) - 2):
                found.append((w["net"], w["points"][k + 1], w["prices"][k], bar + k, n, k))
            bar += len(w["points"]) - 1
        return found

    def conflicts(self):
        bars = self.bars()
        found = []
        for i, one in enumerate(bars):
            for j in range(i + 1, len(bars)):
                two = bars[j]
                if one[0] != two[0]:
                    if bars_square(one[2], one[3], two[2], two[3]) < (one[1] + two[1] + self.clearance) ** 2:
                        found.append((i, j))
        return found

    def reason(self, this):
        if this[2] == 0:
            return 1
        for bar in self.bars():
            if bar[0] != this[0] and line_square(this[1], bar[2], bar[3]) < (bar[1] + self.via + self.clearance) ** 2:
                return 2
        for other in self.corners():
            if other[0] != this[0] and point_square(this[1], other[1]) < (2 * self.via + self.clearance) ** 2:
                return 3
        return 0

    def links(self):
        bars = self.bars()
        found = [(i, j, True) for i, j in self.conflicts()]
        found += [(c[3], c[3] + 1, False) for c in self.corners() if self.reason(c) != 0]
        found += [(k, len(bars), bar[4] == 2) for k, bar in enumerate(bars) if bar[4] != 0]
        return found

    def colours(self, links):
        """A layer for each bar and the ground that keeps the links, and each one's part; None if there is none."""
        size = len(self.bars()) + 1
        layer = [None] * size
        part = [None] * size
        for head in range(size):
            if layer[head] is None:
                layer[head] = 1
                part[head] = head
                todo = [head]
                while todo:
                    here = todo.pop()
                    for a, b, unlike in links:
                        if here in (a, b):
                            other = a + b - here
                            want = 3 - layer[here] if unlike else layer[here]
                            if layer[other] is None:
                                layer[other] = want
                                part[other] = head
                                todo.append(other)
                            elif layer[other] != want:
                                return None
        return layer, part

    def ring(self):
        links = self.links()
        for k in range(len(links)):
            if self.colours(links[:k + 1]) is None:
                return self.least_way(links[:k], links[k][0], links[k][1])
        return []

    def least_way(self, links, u, v):
        ways = [[u]]
        while not any(way[-1] == v for way in ways):
            longer = []
            for way in ways:
                for a, b, unlike in links:
                    if way[-1] in (a, b) and a + b - way[-1] not in way:
                        longer.append(way + [a + b - way[-1]])
            ways = longer
        return min(way for way in ways if way[-1] == v)

    def free_parts(self):
        found = self.colours(self.links())
        if found is None:
            return -1
        return len(set(found[1]) - {found[1][-1]})

    def do_rules(self, clearance, radius):
        if not (1 <= clearance <= RADIUS and 1 <= radius <= RADIUS):
            return [-2]
        self.clearance = clearance
        self.via = radius
        return [0]

    def do_wire(self, net, radius, row):
        if not (0 <= net <= BIG and 1 <= radius <= RADIUS):
            return [-2]
        points = list(zip(row[::2], row[1::2]))
        if len(row) % 2 or not 2 <= len(points) <= 16 or any(abs(number) > BIG for number in row):
            return [-3]
        if any(p == q for p, q in zip(points, points[1:])):
            return [-3]
        if len(self.wires) == 24 or len(self.bars()) + len(points) - 1 > 96:
            return [-4]
        fixed = [0] * (len(points) - 1)
        prices = [1] * (len(points) - 2)
        self.wires.append({"net": net, "radius": radius, "points": points, "fixed": fixed, "prices": prices})
        return [len(self.wires) - 1]

    def do_away(self, number):
        if not 0 <= number < len(self.wires):
            return [-1]
        self.wires = self.wires[:number] + self.wires[number + 1:]
        return [0]

    def put(self, name, number, place, value, most):
        if not 0 <= number < len(self.wires):
            return [-1]
        if not 0 <= place < len(self.wires[number][name]):
            return [-5]
        if not 0 <= value <= most:
            return [-2]
        self.wires[number][name][place] = value
        return [0]

    def do_wires(self):
        told = [len(self.wires)]
        for w in self.wires:
            told += [w["net"], w["radius"], len(w["points"])] + [number for p in w["points"] for number in p]
            told += w["fixed"] + w["prices"]
        return told

    def do_counts(self):
        corners = self.corners()
        usable = len([c for c in corners if self.reason(c) == 0])
        return [len(self.wires), len(self.bars()), len(corners), len(self.conflicts()), usable, self.free_parts()]

    def do_conflicts(self):
        pairs = self.conflicts()
        return [len(pairs)] + [number for pair in pairs for number in pair]

    def do_corner(self, number, place):
        if not 0 <= number < len(self.wires):
            return [-1]
        for c in self.corners():
            if c[4:] == (number, place):
                return [c[3], c[2], self.reason(c)]
        return [-5]

    def answer(self, call):
        """The numbers answered to one call, written as a list."""
        number, rest = call[0], call[1:]
        if number == 1:
            return self.do_wire(rest[0], rest[1], rest[3:])
        if number == 3:
            return self.put("fixed", rest[0], rest[1], rest[2], 2)
        if number == 4:
            return self.put("prices", rest[0], rest[1], rest[2], 1000)
        if number == 5:
            self.wires = []
            return [0]
        if number == 10:
            ring = self.ring()
            return [len(ring)] + ring
        plain = {0: self.do_rules, 2: self.do_away, 6: self.do_wires, 7: self.do_counts, 8: self.do_conflicts,
                 9: self.do_corner}
        return plain[number](*rest)
