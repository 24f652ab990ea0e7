"""Calls 11 to 20 on random lines, the same each time, against the plain reading of the document in tests.helper."""

import random
import unittest

from tests.helper import (BEST, BIG, GREEDY, HIGH, LOW, PARTS, RADIUS, Model, check, cost, descend, fix, flip, layer,
                          less, price, run, vias, wire)
from tests.test_reference import random_call, random_wire


def random_row(rng, model):
    """A row for the board: often a right one, sometimes one that's no row at all."""
    count = len(model.bars())
    chosen = rng.random()
    found = model.colours(model.links())
    if chosen < 0.6 and found is not None:
        turned = {head: rng.random() < 0.5 for head in found[1]}
        turned[found[1][-1]] = found[0][-1] == 2
        return [3 - found[0][k] if turned[found[1][k]] else found[0][k] for k in range(count)]
    if chosen < 0.68:
        count = max(0, count + rng.choice([-1, 1]))
    row = [rng.randint(1, 2) for k in range(count)]
    if chosen > 0.95 and row:
        row[rng.randrange(count)] = rng.choice([0, 3, -1, LOW, HIGH])
    return row


def random_question(rng, model):
    """One of the calls 11 to 20."""
    row = random_row(rng, model)
    bar = rng.randint(-1, len(model.bars()))
    number = rng.randint(-1, len(model.wires))
    k = rng.choice([0, 1, 1, 2, 2, 3])
    return rng.choice([PARTS, BEST, GREEDY, check(row), cost(row), vias(row), layer(k, row), less(number),
                       flip(bar, row), descend(row), descend(row)])


class Line:
    """A line that grows, with what the model answers to it."""

    def __init__(self):
        self.model = Model()
        self.calls = []
        self.told = []

    def put(self, call):
        self.calls.append(call)
        self.told.append(self.model.answer(call))


def random_prices(rng, line, choices):
    for number, w in enumerate(line.model.wires):
        for place in range(len(w["prices"])):
            if rng.random() < 0.7:
                line.put(price(number, place, rng.choice(choices)))


def random_fixes(rng, line, most):
    """Fixes some bars, but none that would leave no row right."""
    for k in range(rng.randint(1, most)):
        number = rng.randrange(len(line.model.wires))
        bar = rng.randrange(len(line.model.wires[number]["fixed"]))
        before = line.model.wires[number]["fixed"][bar]
        line.put(fix(number, bar, rng.randint(1, 2)))
        if line.model.free_parts() == -1:
            line.put(fix(number, bar, before))


def two_nets(rng, span):
    """A board of two nets, on which some row is right as long as no two fixed bars speak against one another."""
    line = Line()
    for k in range(rng.randint(2, 4)):
        points = [(rng.randint(-span, span), 2 * rng.randint(-span, span) + m % 2) for m in range(rng.randint(4, 7))]
        line.put(wire(k % 2, rng.randint(1, 2), *points))
    random_prices(rng, line, [0, 1, 2, 3, 5, 10, 1000])
    random_fixes(rng, line, 8)
    return line


class Reference(unittest.TestCase):
    def setUp(self):
        self.seen = {}

    def compare(self, line):
        for call, found, told in zip(line.calls, run(*line.calls), line.told):
            self.assertEqual(found, told, (line.calls, call))
            if call[0] > 10:
                self.seen[(call[0], min(found[0], 0))] = True

    def check_mixed(self, seed, count, span, nets, most_radius):
        rng = random.Random(seed)
        for k in range(count):
            line = Line()
            for m in range(rng.randint(0, 6)):
                line.put(random_wire(rng, span, nets, 5, most_radius))
            random_prices(rng, line, [0, 1, 2, 3, 5, 10, 1000])
            if line.model.wires and line.model.free_parts() != -1:
                random_fixes(rng, line, 3)
            for m in range(15):
                if rng.random() < 0.25:
                    line.put(random_call(rng, span, nets, most_radius))
                else:
                    line.put(random_question(rng, line.model))
            self.compare(line)

    def test_small_boards(self):
        self.check_mixed(21, 40, 20, 5, 2)

    def test_sparse_boards(self):
        self.check_mixed(22, 30, 60, 8, 3)
        self.check_mixed(23, 30, 400, 5, 3)

    def test_crowded_boards(self):
        self.check_mixed(24, 30, 6, 3, 2)

    def test_wide_boards(self):
        self.check_mixed(25, 30, BIG, 6, RADIUS)

    def test_two_nets(self):
        rng = random.Random(26)
        free = {}
        dear = 0
        for k in range(60):
            line = two_nets(rng, rng.choice([15, 50, 150]))
            for m in range(2):
                line.put(BEST)
                line.put(GREEDY)
                line.put(PARTS)
                dear += line.told[-3][0] > 0
                line.put(descend(random_row(rng, line.model)))
                line.put(random_question(rng, line.model))
                random_prices(rng, line, [1, 2, 3, 5, 1000])
            self.compare(line)
            free[line.model.free_parts()] = True
        self.assertGreater(len(free), 6)
        self.assertGreater(dear, 30)

    def test_all_refusals_come(self):
        self.check_mixed(27, 80, 100, 6, 2)
        for number in (-8, -6, -3, -7, 0):
            self.assertIn((19, number), self.seen)
        for number in (-8, -3, -10, 0):
            self.assertIn((20, number), self.seen)


if __name__ == "__main__":
    unittest.main()
