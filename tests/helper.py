"""What the tests share: calls written out as lists, and a slow, plain reading of the document to compare with."""

from fractions import Fraction
from itertools import product

from viaboard.board import answers

BIG = 1000000000
RADIUS = 100000000
LOW = -2147483648
HIGH = 2147483647

CLEAR = [5]
WIRES = [6]
COUNTS = [7]
CONFLICTS = [8]
RING = [10]
PARTS = [11]
BEST = [12]
GREEDY = [13]


def rules(clearance, radius):
    return [0, clearance, radius]


def row_wire(net, radius, row):
    return [1, net, radius, len(row)] + list(row)


def wire(net, radius, *points):
    return row_wire(net, radius, [number for point in points for number in point])


def straight(bars, net=0, y=0):
    """A wire of that many bars of 100, all in one line."""
    return wire(net, 1, *[(100 * k, y) for k in range(bars + 1)])


def away(number):
    return [2, number]


def fix(number, bar, layer):
    return [3, number, bar, layer]


def price(number, corner, amount):
    return [4, number, corner, amount]


def corner(number, place):
    return [9, number, place]


def row_call(number, row):
    return [number, len(row)] + list(row)


def check(row):
    return row_call(14, row)


def cost(row):
    return row_call(15, row)


def vias(row):
    return row_call(16, row)


def layer(k, row):
    return [17, k, len(row)] + list(row)


def less(number):
    return [18, number]


def flip(bar, row):
    return [19, bar, len(row)] + list(row)


def descend(row):
    return row_call(20, row)


def bad_rows(count):
    """Rows that aren't rows of layers for that many bars."""
    good = [1 + k % 2 for k in range(count)]
    found = [good + [1], good + [2, 1], [1] * 10000, [2] * (count + 96)]
    if count > 0:
        found += [good[:-1], good[1:], [], [0] * count, [3] * count, [LOW] * count, [HIGH] * count]
    for k in range(count):
        found += [good[:k] + [wrong] + good[k + 1:] for wrong in (0, 3, -1, -2, LOW, HIGH)]
    return found


def split(numbers):
    """The answers of a line, one list for each call."""
    found = []
    place = 0
    while place < len(numbers):
        end = place + 1 + numbers[place]
        if end > len(numbers):
            raise ValueError("the last answer is cut short")
        found.append(numbers[place + 1:end])
        place = end
    return found


def run(*calls):
    """The answers to the calls, one list for each."""
    found = split(answers([number for call in calls for number in call]))
    if len(found) != len(calls):
        raise ValueError(f"{len(calls)} calls, {len(found)} answers")
    return found


def last(*calls):
    """The answer to the last of the calls."""
    return run(*calls)[-1]


def point_square(p, q):
    return (p[0] - q[0]) ** 2 + (p[1] - q[1]) ** 2


def line_square(p, a, b):
    """The square of the least distance of p and the line from a to b, by its nearest point."""
    along = Fraction((p[0] - a[0]) * (b[0] - a[0]) + (p[1] - a[1]) * (b[1] - a[1]), point_square(a, b))
    along = max(Fraction(0), min(Fraction(1), along))
    return point_square(p, (a[0] + along * (b[0] - a[0]), a[1] + along * (b[1] - a[1])))


def bars_square(a, b, c, d):
    """The square of the least distance of the lines from a to b and from c to d."""
    ends = min(line_square(a, c, d), line_square(b, c, d), line_square(c, a, b), line_square(d, a, b))
    whole = (b[0] - a[0]) * (d[1] - c[1]) - (b[1] - a[1]) * (d[0] - c[0])
    if whole != 0:
        s = Fraction((c[0] - a[0]) * (d[1] - c[1]) - (c[1] - a[1]) * (d[0] - c[0]), whole)
        t = Fraction((c[0] - a[0]) * (b[1] - a[1]) - (c[1] - a[1]) * (b[0] - a[0]), whole)
        if 0 <= s <= 1 and 0 <= t <= 1:
            return Fraction(0)
    return ends


def vias_of(corners, row):
    """How many of the corners lie between bars on unlike layers, and what they cost."""
    prices = [c[2] for c in corners if row[c[3]] != row[c[3] + 1]]
    return [len(prices), sum(prices)]


def turn_part(part, head, row):
    """The row with the layers of one part's bars changed."""
    return [3 - here if part[k] == head else here for k, here in enumerate(row)]


class Model:
    """The document read word by word; nothing is kept from one call to the next but the board itself."""

    def __init__(self):
        self.clearance = 1
        self.via = 1
        self.wires = []

    def bars(self):
        """All bars: net, radius, two points, fixed layer."""
        found = []
        for w in self.wires:
            for k in range(len(w["points"]) - 1):
                found.append((w["net"], w["radius"], w["points"][k], w["points"][k + 1], w["fixed"][k]))
        return found

    def corners(self):
        """All corners: net, point, price, the bar before it, wire, place."""
        found = []
        bar = 0
        for n, w in enumerate(self.wires):
            for k in range(len(w["points"]) - 2):
                found.append((w["net"], w["points"][k + 1], w["prices"][k], bar + k, n, k))
            bar += len(w["points"]) - 1
        return found

    def conflicts(self):
        bars = self.bars()
        found = []
        for i, one in enumerate(bars):
            for j in range(i + 1, len(bars)):
                two = bars[j]
                if one[0] != two[0]:
                    if bars_square(one[2], one[3], two[2], two[3]) < (one[1] + two[1] + self.clearance) ** 2:
                        found.append((i, j))
        return found

    def reason(self, this):
        if this[2] == 0:
            return 1
        for bar in self.bars():
            if bar[0] != this[0] and line_square(this[1], bar[2], bar[3]) < (bar[1] + self.via + self.clearance) ** 2:
                return 2
        for other in self.corners():
            if other[0] != this[0] and point_square(this[1], other[1]) < (2 * self.via + self.clearance) ** 2:
                return 3
        return 0

    def links(self):
        bars = self.bars()
        found = [(i, j, True) for i, j in self.conflicts()]
        found += [(c[3], c[3] + 1, False) for c in self.corners() if self.reason(c) != 0]
        found += [(k, len(bars), bar[4] == 2) for k, bar in enumerate(bars) if bar[4] != 0]
        return found

    def colours(self, links):
        """A layer for each bar and the ground that keeps the links, and each one's part; None if there is none."""
        size = len(self.bars()) + 1
        layer = [None] * size
        part = [None] * size
        for head in range(size):
            if layer[head] is None:
                layer[head] = 1
                part[head] = head
                todo = [head]
                while todo:
                    here = todo.pop()
                    for a, b, unlike in links:
                        if here in (a, b):
                            other = a + b - here
                            want = 3 - layer[here] if unlike else layer[here]
                            if layer[other] is None:
                                layer[other] = want
                                part[other] = head
                                todo.append(other)
                            elif layer[other] != want:
                                return None
        return layer, part

    def ring(self):
        links = self.links()
        for k in range(len(links)):
            if self.colours(links[:k + 1]) is None:
                return self.least_way(links[:k], links[k][0], links[k][1])
        return []

    def least_way(self, links, u, v):
        ways = [[u]]
        while not any(way[-1] == v for way in ways):
            longer = []
            for way in ways:
                for a, b, unlike in links:
                    if way[-1] in (a, b) and a + b - way[-1] not in way:
                        longer.append(way + [a + b - way[-1]])
            ways = longer
        return min(way for way in ways if way[-1] == v)

    def free_parts(self):
        found = self.colours(self.links())
        if found is None:
            return -1
        return len(set(found[1]) - {found[1][-1]})

    def do_rules(self, clearance, radius):
        if not (1 <= clearance <= RADIUS and 1 <= radius <= RADIUS):
            return [-2]
        self.clearance = clearance
        self.via = radius
        return [0]

    def do_wire(self, net, radius, row):
        if not (0 <= net <= BIG and 1 <= radius <= RADIUS):
            return [-2]
        points = list(zip(row[::2], row[1::2]))
        if len(row) % 2 or not 2 <= len(points) <= 16 or any(abs(number) > BIG for number in row):
            return [-3]
        if any(p == q for p, q in zip(points, points[1:])):
            return [-3]
        if len(self.wires) == 24 or len(self.bars()) + len(points) - 1 > 96:
            return [-4]
        fixed = [0] * (len(points) - 1)
        prices = [1] * (len(points) - 2)
        self.wires.append({"net": net, "radius": radius, "points": points, "fixed": fixed, "prices": prices})
        return [len(self.wires) - 1]

    def do_away(self, number):
        if not 0 <= number < len(self.wires):
            return [-1]
        self.wires = self.wires[:number] + self.wires[number + 1:]
        return [0]

    def put(self, name, number, place, value, most):
        if not 0 <= number < len(self.wires):
            return [-1]
        if not 0 <= place < len(self.wires[number][name]):
            return [-5]
        if not 0 <= value <= most:
            return [-2]
        self.wires[number][name][place] = value
        return [0]

    def do_wires(self):
        told = [len(self.wires)]
        for w in self.wires:
            told += [w["net"], w["radius"], len(w["points"])] + [number for p in w["points"] for number in p]
            told += w["fixed"] + w["prices"]
        return told

    def do_counts(self):
        corners = self.corners()
        usable = len([c for c in corners if self.reason(c) == 0])
        return [len(self.wires), len(self.bars()), len(corners), len(self.conflicts()), usable, self.free_parts()]

    def do_conflicts(self):
        pairs = self.conflicts()
        return [len(pairs)] + [number for pair in pairs for number in pair]

    def do_corner(self, number, place):
        if not 0 <= number < len(self.wires):
            return [-1]
        for c in self.corners():
            if c[4:] == (number, place):
                return [c[3], c[2], self.reason(c)]
        return [-5]

    def is_row(self, row):
        return len(row) == len(self.bars()) and all(number in (1, 2) for number in row)

    def unkept(self, row):
        """The links that a row doesn't keep, as check tells them."""
        found = [[1, i, j] for i, j in self.conflicts() if row[i] == row[j]]
        found += [[2, c[3], c[3] + 1] for c in self.corners() if self.reason(c) != 0 and row[c[3]] != row[c[3] + 1]]
        return found + [[3, k, bar[4]] for k, bar in enumerate(self.bars()) if bar[4] != 0 and row[k] != bar[4]]

    def usable(self):
        """The corners that aren't barred."""
        return [c for c in self.corners() if self.reason(c) == 0]

    def right_rows(self):
        """All right rows: of all rows on small boards, else by what parts leave open."""
        count = len(self.bars())
        if count <= 6:
            return [list(row) for row in product((1, 2), repeat=count) if not self.unkept(row)]
        layers, part = self.colours(self.links())
        free = sorted(set(part) - {part[-1]})
        found = []
        for chosen in product((1, 2), repeat=len(free)):
            turned = dict(zip(free, chosen))
            turned[part[-1]] = layers[-1]
            found.append([layers[k] if turned[part[k]] == 1 else 3 - layers[k] for k in range(count)])
        return found

    def row_told(self, row):
        return [vias_of(self.usable(), row)[1], len(row)] + list(row)

    def do_parts(self):
        found = self.colours(self.links())
        if found is None:
            return [-8]
        return [len(found[0])] + [number for k, side in zip(found[1], found[0]) for number in (k, side - 1)]

    def do_best(self):
        if self.free_parts() == -1:
            return [-8]
        if self.free_parts() > 12:
            return [-9]
        usable = self.usable()
        return self.row_told(min(self.right_rows(), key=lambda row: (vias_of(usable, row)[1], row)))

    def do_greedy(self):
        found = self.colours(self.links())
        if found is None:
            return [-8]
        layers, part = found
        usable = self.usable()
        row = [k if layers[-1] == 1 else 3 - k for k in layers]
        settled = {part[-1]}
        for head in sorted(set(part) - settled):
            settled.add(head)
            seen = [c for c in usable if part[c[3]] in settled and part[c[3] + 1] in settled]
            with_one = [layers[k] if part[k] == head else here for k, here in enumerate(row)]
            with_two = [3 - layers[k] if part[k] == head else here for k, here in enumerate(row)]
            row = with_two if vias_of(seen, with_two)[1] < vias_of(seen, with_one)[1] else with_one
        return self.row_told(row[:-1])

    def do_check(self, row):
        if not self.is_row(row):
            return [-3]
        found = self.unkept(row)
        return [len(found)] + [number for link in found for number in link]

    def do_cost(self, row):
        return vias_of(self.usable(), row) if self.is_row(row) else [-3]

    def do_vias(self, row):
        if not self.is_row(row):
            return [-3]
        points = [c[1] for c in self.usable() if row[c[3]] != row[c[3] + 1]]
        return [len(points)] + [number for point in points for number in point]

    def do_layer(self, k, row):
        if k not in (1, 2):
            return [-2]
        if not self.is_row(row):
            return [-3]
        found = [[bar[1], *bar[2], *bar[3]] for bar, here in zip(self.bars(), row) if here == k]
        return [len(found)] + [number for bar in found for number in bar]

    def do_less(self, number):
        if not 0 <= number < len(self.wires):
            return [-1]
        other = Model()
        other.clearance = self.clearance
        other.via = self.via
        other.wires = [w for k, w in enumerate(self.wires) if k != number]
        return other.do_best()[:1]

    def do_flip(self, bar, row):
        found = self.colours(self.links())
        if found is None:
            return [-8]
        if not 0 <= bar < len(self.bars()):
            return [-6]
        if not self.is_row(row):
            return [-3]
        if found[1][bar] == found[1][-1]:
            return [-7]
        return [len(row)] + turn_part(found[1], found[1][bar], row)

    def do_descend(self, row):
        found = self.colours(self.links())
        if found is None:
            return [-8]
        if not self.is_row(row):
            return [-3]
        if self.unkept(row):
            return [-10]
        usable = self.usable()
        free = sorted(set(found[1]) - {found[1][-1]})
        while True:
            turned = [turn_part(found[1], head, row) for head in free]
            cheaper = [other for other in turned if vias_of(usable, other)[1] < vias_of(usable, row)[1]]
            if not cheaper:
                return self.row_told(row)
            row = cheaper[0]

    def answer(self, call):
        """The numbers answered to one call, written as a list."""
        number, rest = call[0], call[1:]
        if number in (14, 15, 16, 20):
            told = {14: self.do_check, 15: self.do_cost, 16: self.do_vias, 20: self.do_descend}
            return told[number](rest[1:])
        if number in (17, 19):
            return {17: self.do_layer, 19: self.do_flip}[number](rest[0], rest[2:])
        if number == 1:
            return self.do_wire(rest[0], rest[1], rest[3:])
        if number == 3:
            return self.put("fixed", rest[0], rest[1], rest[2], 2)
        if number == 4:
            return self.put("prices", rest[0], rest[1], rest[2], 1000)
        if number == 5:
            self.wires = []
            return [0]
        if number == 10:
            ring = self.ring()
            return [len(ring)] + ring
        plain = {0: self.do_rules, 2: self.do_away, 6: self.do_wires, 7: self.do_counts, 8: self.do_conflicts,
                 9: self.do_corner, 11: self.do_parts, 12: self.do_best, 13: self.do_greedy, 18: self.do_less}
        return plain[number](*rest)
