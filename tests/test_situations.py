"""Promises 11 to 20: what each call answers on boards of every kind."""

import unittest

from tests.helper import (BEST, GREEDY, PARTS, RING, WIRES, check, cost, descend, fix, flip, last, layer, less, price,
                          rules, run, vias, wire)

# Bars 0 and 2 must be unlike, by way of bars 3 and 4, which cross one another; bar 1 between them may choose.
FREE = [wire(0, 1, (0, 0), (100, 0), (200, 0), (300, 0)), price(0, 0, 3), price(0, 1, 5),
        wire(1, 1, (50, -50), (250, 250)), wire(2, 1, (250, -50), (50, 250))]
GROUNDED = FREE + [fix(0, 0, 2)]
# Bars 0 and 3 are fixed on unlike layers, and bar 4 crosses bar 0.
BOTH = [wire(0, 1, (0, 0), (100, 0), (200, 0), (300, 0), (400, 0)), price(0, 0, 4), price(0, 1, 2), price(0, 2, 2),
        wire(1, 1, (50, -50), (50, 50)), fix(0, 0, 1), fix(0, 3, 2)]
# The first three corners are barred, each for another reason; the fourth isn't; that of the last wire is.
BARRED = [rules(1, 5), wire(0, 1, (0, 0), (100, 0), (200, 0), (300, 0), (400, 0), (500, 0)), price(0, 0, 0),
          price(0, 3, 7), wire(1, 1, (200, 5), (200, 50)), wire(2, 1, (270, 90), (300, 10), (330, 90))]
# Bars 0, 2 and 3 cross one another.
BROKEN = [wire(0, 1, (-100, 0), (100, 0), (200, 0)), wire(1, 1, (0, -100), (0, 100)),
          wire(2, 1, (-50, -50), (50, 50)), wire(3, 1, (500, 0), (600, 0))]


class Situations(unittest.TestCase):
    def check_board(self, board, *asked):
        """Each question alone, and all of them on one board."""
        for call, answer in asked:
            self.assertEqual(last(*board, call), answer, call)
        found = run(*board, WIRES, *[call for call, answer in asked], WIRES)
        self.assertEqual(found[len(board) + 1:-1], [answer for call, answer in asked])
        self.assertEqual(found[len(board)], found[-1])

    def test_an_empty_board(self):
        self.check_board(
            [], (PARTS, [1, 0, 0]), (BEST, [0, 0]), (GREEDY, [0, 0]), (check([]), [0]), (cost([]), [0, 0]),
            (vias([]), [0]), (layer(1, []), [0]), (layer(2, []), [0]), (less(0), [-1]), (flip(0, []), [-6]),
            (descend([]), [0, 0]))

    def test_free_parts(self):
        self.check_board(
            FREE, (PARTS, [6, 0, 0, 1, 0, 0, 1, 0, 1, 0, 0, 5, 0]),
            (BEST, [3, 5, 1, 2, 2, 2, 1]), (GREEDY, [3, 5, 1, 2, 2, 2, 1]),
            (check([1, 1, 1, 1, 1]), [3, 1, 0, 3, 1, 2, 4, 1, 3, 4]), (check([1, 1, 2, 2, 1]), [0]),
            (cost([2, 1, 2, 1, 1]), [2, 8]), (vias([2, 1, 2, 1, 1]), [2, 100, 0, 200, 0]),
            (layer(2, [2, 1, 2, 1, 1]), [2, 1, 0, 0, 100, 0, 1, 200, 0, 300, 0]),
            (layer(1, [2, 1, 2, 1, 1]), [3, 1, 100, 0, 200, 0, 1, 50, -50, 250, 250, 1, 250, -50, 50, 250]),
            (less(0), [0]), (less(1), [0]), (less(2), [0]),
            (flip(2, [1, 1, 2, 2, 1]), [5, 2, 1, 1, 1, 2]), (flip(1, [1, 1, 2, 2, 1]), [5, 1, 2, 2, 2, 1]),
            (descend([1, 1, 2, 2, 1]), [3, 5, 2, 1, 1, 1, 2]), (descend([2, 2, 1, 1, 2]), [3, 5, 1, 2, 2, 2, 1]))

    def test_a_part_with_the_ground(self):
        self.check_board(
            GROUNDED, (PARTS, [6, 0, 0, 1, 0, 0, 1, 0, 1, 0, 0, 0, 1]),
            (BEST, [3, 5, 2, 1, 1, 1, 2]), (GREEDY, [3, 5, 2, 1, 1, 1, 2]),
            (check([1, 1, 1, 1, 1]), [4, 1, 0, 3, 1, 2, 4, 1, 3, 4, 3, 0, 2]), (check([2, 2, 1, 1, 2]), [0]),
            (cost([1, 2, 1, 1, 1]), [2, 8]), (vias([1, 1, 2, 1, 1]), [1, 200, 0]),
            (layer(1, [2, 2, 2, 2, 1]), [1, 1, 250, -50, 50, 250]),
            (less(0), [0]), (less(1), [0]),
            (flip(0, [2, 1, 1, 1, 2]), [-7]), (flip(4, [2, 1, 1, 1, 2]), [-7]),
            (flip(1, [2, 1, 1, 1, 2]), [5, 2, 2, 1, 1, 2]),
            (descend([2, 2, 1, 1, 2]), [3, 5, 2, 1, 1, 1, 2]), (descend([1, 1, 2, 2, 1]), [-10]))

    def test_fixed_bars_on_both_layers(self):
        row = [1, 2, 1, 2, 2]
        self.check_board(
            BOTH, (PARTS, [6, 0, 0, 1, 0, 2, 0, 0, 1, 0, 1, 0, 0]),
            (BEST, [2, 5, 1, 1, 1, 2, 2]), (GREEDY, [2, 5, 1, 1, 1, 2, 2]),
            (check([2, 2, 1, 1, 2]), [3, 1, 0, 4, 3, 0, 1, 3, 3, 2]), (check(row), [0]),
            (cost(row), [3, 8]), (vias(row), [3, 100, 0, 200, 0, 300, 0]),
            (layer(1, row), [2, 1, 0, 0, 100, 0, 1, 200, 0, 300, 0]),
            (less(0), [0]), (less(1), [2]),
            (flip(0, row), [-7]), (flip(3, row), [-7]), (flip(4, row), [-7]), (flip(2, row), [5, 1, 2, 2, 2, 2]),
            (descend(row), [2, 5, 1, 1, 1, 2, 2]), (descend([1, 2, 2, 2, 2]), [2, 5, 1, 1, 2, 2, 2]),
            (descend([1, 1, 1, 1, 2]), [-10]), (descend([2, 1, 1, 2, 1]), [-10]))

    def test_barred_corners_of_each_reason(self):
        row = [1, 2, 1, 2, 1, 1, 1, 2]
        self.check_board(
            BARRED, ([9, 0, 0], [0, 0, 1]), ([9, 0, 1], [1, 1, 2]), ([9, 0, 2], [2, 1, 3]), ([9, 0, 3], [3, 7, 0]),
            ([9, 2, 0], [6, 1, 3]),
            (PARTS, [9, 0, 0, 0, 0, 0, 0, 0, 0, 4, 0, 5, 0, 6, 0, 6, 0, 8, 0]),
            (BEST, [0, 8, 1, 1, 1, 1, 1, 1, 1, 1]), (GREEDY, [0, 8, 1, 1, 1, 1, 1, 1, 1, 1]),
            (check(row), [4, 2, 0, 1, 2, 1, 2, 2, 2, 3, 2, 6, 7]), (check([1, 1, 1, 1, 2, 1, 2, 2]), [0]),
            (cost(row), [1, 7]), (vias(row), [1, 400, 0]),
            (layer(2, row), [3, 1, 100, 0, 200, 0, 1, 300, 0, 400, 0, 1, 300, 10, 330, 90]),
            (less(0), [0]), (less(1), [0]), (less(2), [0]),
            (flip(2, row), [8, 2, 1, 2, 1, 1, 1, 1, 2]), (flip(7, row), [8, 1, 2, 1, 2, 1, 1, 2, 1]),
            (descend([1, 1, 1, 1, 2, 1, 2, 2]), [0, 8, 2, 2, 2, 2, 2, 1, 2, 2]),
            (descend([1, 1, 1, 2, 2, 1, 1, 1]), [-10]), (descend(row), [-10]))

    def test_fixed_bars_round_barred_corners(self):
        board = BARRED + [fix(0, 0, 1), fix(0, 4, 2)]
        self.check_board(
            board, (PARTS, [9, 0, 0, 0, 0, 0, 0, 0, 0, 0, 1, 5, 0, 6, 0, 6, 0, 0, 0]),
            (BEST, [7, 8, 1, 1, 1, 1, 2, 1, 1, 1]), (GREEDY, [7, 8, 1, 1, 1, 1, 2, 1, 1, 1]),
            (check([2, 1, 1, 1, 1, 1, 1, 1]), [3, 2, 0, 1, 3, 0, 1, 3, 4, 2]),
            (less(0), [0]), (less(1), [1]), (less(2), [1]),
            (descend([1, 1, 1, 1, 2, 2, 2, 2]), [7, 8, 1, 1, 1, 1, 2, 2, 2, 2]))

    def test_no_row_is_right(self):
        row = [1, 2, 2, 1, 2]
        self.check_board(
            BROKEN, (RING, [3, 2, 0, 3]), (PARTS, [-8]), (BEST, [-8]), (GREEDY, [-8]),
            (check([1, 1, 1, 1, 1]), [3, 1, 0, 2, 1, 0, 3, 1, 2, 3]), (check(row), [1, 1, 0, 3]),
            (cost(row), [1, 1]), (vias(row), [1, 100, 0]),
            (layer(1, row), [2, 1, -100, 0, 100, 0, 1, -50, -50, 50, 50]),
            (less(0), [0]), (less(1), [0]), (less(2), [0]), (less(3), [-8]), (less(4), [-1]),
            (flip(1, row), [-8]), (descend(row), [-8]))


if __name__ == "__main__":
    unittest.main()
