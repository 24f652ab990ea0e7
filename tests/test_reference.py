"""Random lines, the same each time, against the plain reading of the document in tests.helper."""

import math
import random
import unittest

from tests.helper import (BIG, CLEAR, CONFLICTS, COUNTS, RADIUS, RING, WIRES, Model, away, bars_square, corner, fix, last,
                          line_square, point_square, price, rules, run, wire)


def random_wire(rng, span, nets, most_points, most_radius):
    points = []
    while len(points) < 2 or rng.random() < 0.5 and len(points) < most_points:
        point = (rng.randint(-span, span), rng.randint(-span, span))
        if not points or point != points[-1]:
            points.append(point)
    return wire(rng.randrange(nets), rng.randint(1, most_radius), *points)


def random_call(rng, span, nets, most_radius):
    """A change or a question; now and then one that is refused."""
    number = rng.randint(-1, 6)
    place = rng.randint(-1, 3)
    chosen = rng.randrange(12)
    if chosen < 3:
        return random_wire(rng, span, nets, 5, most_radius)
    if chosen == 3:
        return rules(rng.randint(0, most_radius), rng.randint(1, most_radius))
    if chosen == 4:
        return rng.choice([away(number), away(number), CLEAR])
    if chosen < 7:
        return fix(number, place, rng.randint(0, 2))
    if chosen == 7:
        return price(number, place, rng.choice([0, 0, 1, 5, 1000, 1001]))
    return rng.choice([WIRES, COUNTS, CONFLICTS, RING, RING, corner(number, place)])


def random_line(rng, span, nets, most_radius):
    calls = [random_wire(rng, span, nets, 5, most_radius) for k in range(rng.randint(0, 6))]
    calls += [random_call(rng, span, nets, most_radius) for k in range(12)]
    return calls + [WIRES, COUNTS, CONFLICTS, RING] + [corner(k, m) for k in range(4) for m in range(3)]


class Reference(unittest.TestCase):
    def check_lines(self, seed, count, span, nets, most_radius):
        rng = random.Random(seed)
        rings = {}
        for k in range(count):
            calls = random_line(rng, span, nets, most_radius)
            model = Model()
            for call, found in zip(calls, run(*calls)):
                self.assertEqual(found, model.answer(call), (calls, call))
                if call == RING:
                    rings[found[0]] = True
        return sorted(rings)

    def test_small_boards(self):
        rings = self.check_lines(1, 150, 20, 5, 2)
        self.assertGreater(len(rings), 3)

    def test_sparse_boards(self):
        rings = self.check_lines(2, 150, 60, 8, 3)
        self.assertGreater(len(rings), 3)

    def test_crowded_boards(self):
        self.check_lines(3, 100, 6, 3, 2)

    def test_wide_boards(self):
        self.check_lines(4, 100, BIG, 6, RADIUS)

    def test_few_nets(self):
        self.check_lines(5, 100, 30, 2, 4)


class Thresholds(unittest.TestCase):
    """Rules chosen so that the distance lies between two whole numbers that follow one another, or is one."""

    def points(self, rng, count):
        span = rng.choice([4, 30, 1000, 10 ** 6, 10 ** 8])
        found = []
        while len(found) < count:
            point = (rng.randint(-span, span), rng.randint(-span, span))
            if not found or point != found[-1]:
                found.append(point)
        return found

    def clearances(self, square, radii):
        """For the clearances just below and above the distance: the clearance, and whether it is kept."""
        root = math.isqrt(math.floor(square))
        near = [root - radii + k for k in (-1, 0, 1, 2)]
        return [(c, square >= (c + radii) ** 2) for c in near if 1 <= c <= RADIUS]

    def test_bars(self):
        rng = random.Random(6)
        for k in range(400):
            one = self.points(rng, 2)
            two = self.points(rng, 2)
            for c, kept in self.clearances(bars_square(*one, *two), 5):
                found = last(rules(c, 1), wire(0, 2, *one), wire(1, 3, *two), CONFLICTS)
                self.assertEqual(found, [0] if kept else [1, 0, 1], (one, two, c))

    def test_discs_and_bars(self):
        rng = random.Random(7)
        for k in range(400):
            one = self.points(rng, 3)
            two = self.points(rng, 2)
            for c, kept in self.clearances(line_square(one[1], *two), 5):
                board = [rules(c, 2), wire(0, 1, *one), wire(1, 3, *two)]
                self.assertEqual(last(*board, corner(0, 0)), [0, 1, 0 if kept else 2], (one, two, c))

    def test_discs_and_discs(self):
        rng = random.Random(8)
        for k in range(400):
            # The legs leave away from one another, so that only the discs may be near.
            one = (rng.randint(-10 ** 6, 0), rng.randint(-50, 50))
            two = (rng.randint(8, 10 ** 6), rng.randint(-50, 50))
            first = wire(0, 1, (-BIG, 50), one, (-BIG, -50))
            second = wire(1, 1, (BIG, 50), two, (BIG, -50))
            for c, kept in self.clearances(point_square(one, two), 6):
                found = run(rules(c, 3), first, second, corner(0, 0), corner(1, 0))[3:]
                self.assertEqual(found[0][2], found[1][2])
                self.assertEqual(found[0][2] == 0, kept, (one, two, c))


if __name__ == "__main__":
    unittest.main()
