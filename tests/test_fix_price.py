"""Promises 3 and 4: fix and price."""

import unittest

from tests.helper import COUNTS, HIGH, LOW, RING, WIRES, corner, fix, last, price, run, wire

FIRST = wire(0, 1, (0, 0), (100, 0), (100, 100), (0, 100))
SECOND = wire(0, 1, (500, 0), (600, 0))
TOLD = [2, 0, 1, 4, 0, 0, 100, 0, 100, 100, 0, 100]
BEHIND = [0, 1, 2, 500, 0, 600, 0]


def told(fixed, prices, second=0):
    """What wires answers with these fixed layers and prices."""
    return TOLD + fixed + prices + BEHIND + [second]


class Fix(unittest.TestCase):
    def test_each_layer_on_each_bar(self):
        for layer in (0, 1, 2):
            found = run(FIRST, SECOND, fix(0, 0, layer), WIRES, fix(0, 2, layer), WIRES, fix(1, 0, layer), WIRES)
            self.assertEqual([found[2], found[4], found[6]], [[0]] * 3)
            self.assertEqual(found[3], told([layer, 0, 0], [1, 1]))
            self.assertEqual(found[5], told([layer, 0, layer], [1, 1]))
            self.assertEqual(found[7], told([layer, 0, layer], [1, 1], layer))

    def test_fixed_anew_and_not_fixed_again(self):
        found = run(FIRST, SECOND, fix(0, 1, 1), fix(0, 1, 2), WIRES, fix(0, 1, 0), WIRES)
        self.assertEqual([found[4], found[6]], [told([0, 2, 0], [1, 1]), told([0, 0, 0], [1, 1])])

    def test_it_joins_the_ground(self):
        found = run(FIRST, SECOND, COUNTS, fix(0, 1, 1), COUNTS, fix(0, 2, 2), COUNTS, fix(0, 1, 0), COUNTS)
        self.assertEqual([answer[5] for answer in (found[2], found[4], found[6], found[8])], [4, 3, 2, 3])

    def test_what_was_asked_before_does_not_stay(self):
        found = run(FIRST, SECOND, price(0, 0, 0), RING, fix(0, 0, 1), RING, fix(0, 1, 2), RING, fix(0, 1, 1), RING)
        self.assertEqual([found[3], found[5], found[7], found[9]], [[0], [0], [3, 1, 0, 4], [0]])

    def test_refusals(self):
        for call, number in ((fix(2, 0, 1), -1), (fix(-1, 0, 1), -1), (fix(LOW, 0, 1), -1), (fix(HIGH, 0, 1), -1),
                             (fix(0, 3, 1), -5), (fix(0, -1, 1), -5), (fix(1, 1, 1), -5), (fix(0, LOW, 1), -5),
                             (fix(0, HIGH, 1), -5), (fix(0, 0, 3), -2), (fix(0, 0, -1), -2), (fix(0, 0, LOW), -2),
                             (fix(0, 0, HIGH), -2)):
            found = run(FIRST, SECOND, fix(0, 0, 2), call, WIRES)
            self.assertEqual(found[3:], [[number], told([2, 0, 0], [1, 1])], call)

    def test_the_order_of_refusals(self):
        found = run(FIRST, fix(1, 3, 3), fix(1, 0, 3), fix(1, 3, 0), fix(0, 3, 3))
        self.assertEqual(found[1:], [[-1], [-1], [-1], [-5]])


class Price(unittest.TestCase):
    def test_bounds(self):
        for good in (0, 1, 2, 999, 1000):
            found = run(FIRST, SECOND, price(0, 0, good), WIRES, price(0, 1, good), WIRES)
            self.assertEqual([found[2], found[4]], [[0], [0]])
            self.assertEqual([found[3], found[5]], [told([0] * 3, [good, 1]), told([0] * 3, [good, good])])

    def test_a_price_of_0_bars_the_corner(self):
        found = run(FIRST, corner(0, 1), COUNTS, price(0, 1, 0), corner(0, 1), COUNTS, price(0, 1, 5), corner(0, 1),
                    COUNTS)
        self.assertEqual([found[1], found[4], found[7]], [[1, 1, 0], [1, 0, 1], [1, 5, 0]])
        self.assertEqual([found[2], found[5], found[8]], [[1, 3, 2, 0, 2, 3], [1, 3, 2, 0, 1, 2], [1, 3, 2, 0, 2, 3]])

    def test_refusals(self):
        for call, number in ((price(2, 0, 5), -1), (price(-1, 0, 5), -1), (price(LOW, 0, 5), -1),
                             (price(HIGH, 0, 5), -1), (price(0, 2, 5), -5), (price(0, -1, 5), -5),
                             (price(1, 0, 5), -5), (price(0, LOW, 5), -5), (price(0, HIGH, 5), -5),
                             (price(0, 0, -1), -2), (price(0, 0, 1001), -2), (price(0, 0, LOW), -2),
                             (price(0, 0, HIGH), -2)):
            found = run(FIRST, SECOND, price(0, 0, 7), call, WIRES)
            self.assertEqual(found[3:], [[number], told([0] * 3, [7, 1])], call)

    def test_the_order_of_refusals(self):
        found = run(FIRST, price(1, 2, -1), price(1, 0, -1), price(1, 2, 0), price(0, 2, -1))
        self.assertEqual(found[1:], [[-1], [-1], [-1], [-5]])

    def test_a_wire_of_one_bar_has_no_corner(self):
        self.assertEqual(last(SECOND, price(0, 0, 1)), [-5])


if __name__ == "__main__":
    unittest.main()
