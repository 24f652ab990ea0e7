"""Promises 15, 16 and 17: cost, vias and layer."""

import itertools
import unittest

from tests.helper import (BIG, HIGH, LOW, RADIUS, away, bad_rows, cost, fix, last, layer, price, rules, run, vias, wire)

# Bars 0 to 3 with the corners 1, 10 and 100, then bars 4 and 5 with the corner 1000.
BOARD = [wire(0, 2, (0, 0), (100, 0), (200, 50), (300, 0), (300, -100)), price(0, 1, 10), price(0, 2, 100),
         wire(0, 7, (-500, 3), (-600, 4), (-700, 5)), price(1, 0, 1000)]
POINTS = [(100, 0), (200, 50), (300, 0), (-600, 4)]
BARS = [(2, 0, 0, 100, 0), (2, 100, 0, 200, 50), (2, 200, 50, 300, 0), (2, 300, 0, 300, -100),
        (7, -500, 3, -600, 4), (7, -600, 4, -700, 5)]
CORNERS = ((0, 1), (1, 10), (2, 100), (4, 1000))
# Bars 0 and 2 cross, and both are fixed on layer 1: no row is right.
BROKEN = [wire(0, 1, (0, 0), (100, 0), (200, 0)), wire(1, 1, (50, -50), (50, 50)), fix(0, 0, 1), fix(1, 0, 1)]


def flat(lists):
    return [number for numbers in lists for number in numbers]


class Cost(unittest.TestCase):
    def test_no_bars(self):
        self.assertEqual(last(cost([])), [0, 0])

    def test_every_row(self):
        for row in itertools.product((1, 2), repeat=6):
            prices = [amount for bar, amount in CORNERS if row[bar] != row[bar + 1]]
            self.assertEqual(last(*BOARD, cost(row)), [len(prices), sum(prices)])

    def test_no_via_between_two_wires(self):
        self.assertEqual(last(*BOARD, cost([1, 1, 1, 1, 2, 2])), [0, 0])

    def test_barred_corners_do_not_count(self):
        row = [1, 2, 1, 2, 1, 2]
        self.assertEqual(last(*BOARD, cost(row)), [4, 1111])
        self.assertEqual(last(*BOARD, price(0, 1, 0), cost(row)), [3, 1101])
        bar = wire(1, 1, (200, 55), (200, 90))
        self.assertEqual(last(*BOARD, bar, cost(row + [1])), [4, 1111])
        self.assertEqual(last(*BOARD, bar, rules(1, 4), cost(row + [1])), [3, 1101])
        disc = wire(1, 1, (150, 300), (200, 60), (250, 300))
        self.assertEqual(last(*BOARD, disc, rules(1, 4), cost(row + [1, 1])), [4, 1111])
        self.assertEqual(last(*BOARD, disc, rules(1, 5), cost(row + [1, 1])), [3, 1101])

    def test_rows_that_are_not_right(self):
        self.assertEqual(run(*BROKEN, cost([1, 2, 1]), cost([1, 1, 1]), cost([2, 1, 2]))[4:], [[1, 1], [0, 0], [1, 1]])
        self.assertEqual(last(*BOARD, fix(0, 0, 1), cost([2, 1, 1, 1, 1, 1])), [1, 1])

    def test_wrong_rows(self):
        for row in bad_rows(6):
            self.assertEqual(last(*BOARD, cost(row)), [-3], row[:7])
        for row in bad_rows(0):
            self.assertEqual(last(cost(row)), [-3])

    def test_the_dearest_row(self):
        board = [wire(0, 1, *[(10 * m, 50 * k) for m in range(16)]) for k in range(6)]
        board += [price(k, m, 1000) for k in range(6) for m in range(14)]
        self.assertEqual(last(*board, cost([1 + k % 15 % 2 for k in range(90)])), [84, 84000])

    def test_what_was_asked_before_does_not_stay(self):
        row = [1, 2, 1, 2, 1, 2]
        found = run(*BOARD, cost(row), price(0, 0, 5), cost(row), price(0, 0, 0), cost(row), away(0), cost(row[:2]))
        self.assertEqual([found[5], found[7], found[9], found[11]], [[4, 1111], [4, 1115], [3, 1110], [1, 1000]])


class Vias(unittest.TestCase):
    def test_no_bars(self):
        self.assertEqual(last(vias([])), [0])

    def test_every_row(self):
        for row in itertools.product((1, 2), repeat=6):
            points = [POINTS[k] for k, told in enumerate(CORNERS) if row[told[0]] != row[told[0] + 1]]
            self.assertEqual(last(*BOARD, vias(row)), [len(points)] + flat(points))

    def test_barred_corners_have_none(self):
        self.assertEqual(last(*BOARD, price(0, 1, 0), vias([1, 2, 1, 2, 1, 2])), [3, 100, 0, 300, 0, -600, 4])
        bar = wire(1, 1, (200, 55), (200, 90))
        self.assertEqual(last(*BOARD, bar, rules(1, 4), vias([1, 2, 1, 1, 1, 1, 1])), [1, 100, 0])

    def test_a_point_that_comes_twice(self):
        back = wire(0, 1, (0, 0), (50, 0), (0, 0), (50, 0), (0, 0))
        self.assertEqual(last(back, vias([1, 2, 1, 2])), [3, 50, 0, 0, 0, 50, 0])

    def test_rows_that_are_not_right(self):
        self.assertEqual(run(*BROKEN, vias([1, 2, 1]), vias([1, 1, 1]), vias([2, 1, 2]))[4:],
                         [[1, 100, 0], [0], [1, 100, 0]])

    def test_far_points(self):
        far = wire(0, 1, (BIG, 0), (-BIG, BIG), (BIG, -BIG))
        self.assertEqual(last(far, vias([2, 1])), [1, -BIG, BIG])

    def test_wrong_rows(self):
        for row in bad_rows(6):
            self.assertEqual(last(*BOARD, vias(row)), [-3], row[:7])
        for row in bad_rows(0):
            self.assertEqual(last(vias(row)), [-3])

    def test_the_order_of_corners(self):
        found = last(*BOARD, away(0), BOARD[0], vias([1, 2, 1, 2, 1, 2]))
        self.assertEqual(found, [4, -600, 4, 100, 0, 200, 50, 300, 0])


class Layer(unittest.TestCase):
    def test_no_bars(self):
        self.assertEqual(run(layer(1, []), layer(2, [])), [[0], [0]])

    def test_every_row(self):
        for row in itertools.product((1, 2), repeat=6):
            for k in (1, 2):
                told = [bar for bar, here in zip(BARS, row) if here == k]
                self.assertEqual(last(*BOARD, layer(k, row)), [len(told)] + flat(told))

    def test_rows_that_are_not_right(self):
        self.assertEqual(last(*BROKEN, layer(1, [2, 1, 1])), [2, 1, 100, 0, 200, 0, 1, 50, -50, 50, 50])

    def test_great_numbers(self):
        far = wire(BIG, RADIUS, (BIG, 0), (-BIG, BIG), (BIG, -BIG))
        self.assertEqual(last(far, layer(2, [1, 2])), [1, RADIUS, -BIG, BIG, BIG, -BIG])

    def test_no_such_layer(self):
        for k in (0, 3, -1, LOW, HIGH):
            self.assertEqual(run(*BOARD, layer(k, [1] * 6), layer(k, [k] * 6))[5:], [[-2], [-2]])
            self.assertEqual(run(layer(k, [])), [[-2]])

    def test_wrong_rows(self):
        for row in bad_rows(6):
            self.assertEqual(run(*BOARD, layer(1, row), layer(2, row))[5:], [[-3], [-3]], row[:7])
        for row in bad_rows(0):
            self.assertEqual(run(layer(1, row), layer(2, row)), [[-3], [-3]])

    def test_the_order_of_refusals(self):
        for row in ([], [1] * 5, [1] * 7, [0] * 6):
            self.assertEqual(run(*BOARD, layer(0, row), layer(3, row), layer(1, row))[5:], [[-2], [-2], [-3]])

    def test_a_full_board(self):
        board = [wire(k, 1, *[(m, 10 * k) for m in range(5)]) for k in range(24)]
        bars = [(1, m, 10 * k, m + 1, 10 * k) for k in range(24) for m in range(4)]
        self.assertEqual(last(*board, layer(2, [2] * 96)), [96] + flat(bars))
        self.assertEqual(last(*board, layer(2, [1, 2] * 48)), [48] + flat(bars[1::2]))


if __name__ == "__main__":
    unittest.main()
