"""Promises 6 and 7: wires and counts."""

import unittest

from tests.helper import BIG, COUNTS, RADIUS, WIRES, away, fix, last, price, rules, run, wire


class Wires(unittest.TestCase):
    def test_none(self):
        self.assertEqual(run(WIRES), [[0]])

    def test_all_that_is_told_of_a_wire(self):
        made = [wire(9, 3, (1, -2), (3, 4)), wire(BIG, RADIUS, (-BIG, BIG), (0, 0), (5, 6), (BIG, -BIG))]
        found = last(*made, fix(0, 0, 1), fix(1, 2, 2), price(1, 0, 1000), price(1, 1, 0), WIRES)
        self.assertEqual(found, [2, 9, 3, 2, 1, -2, 3, 4, 1,
                                 BIG, RADIUS, 4, -BIG, BIG, 0, 0, 5, 6, BIG, -BIG, 0, 0, 2, 1000, 0])

    def test_a_wire_of_16_points(self):
        points = [(k, k * k) for k in range(16)]
        found = last(wire(5, 6, *points), WIRES)
        self.assertEqual(found, [1, 5, 6, 16] + [n for p in points for n in p] + [0] * 15 + [1] * 14)

    def test_nothing_is_changed_by_asking(self):
        made = wire(9, 3, (1, -2), (3, 4), (5, 5))
        found = run(made, WIRES, COUNTS, WIRES, COUNTS)
        self.assertEqual(found[1:3], found[3:5])


class Counts(unittest.TestCase):
    def test_none(self):
        self.assertEqual(run(COUNTS), [[0] * 6])

    def test_each_number(self):
        board = [wire(0, 1, (0, 0), (100, 0), (200, 0), (300, 0)), wire(1, 1, (50, -50), (50, 50), (99, 50))]
        self.assertEqual(last(*board, COUNTS), [2, 5, 3, 1, 3, 4])
        # Bar 0 crosses bar 3: their part is one; each barred corner joins two more.
        self.assertEqual(last(*board, price(0, 0, 0), COUNTS), [2, 5, 3, 1, 2, 3])
        self.assertEqual(last(*board, price(0, 0, 0), price(1, 0, 0), COUNTS), [2, 5, 3, 1, 1, 2])
        self.assertEqual(last(*board, price(0, 0, 0), price(0, 1, 0), price(1, 0, 0), COUNTS), [2, 5, 3, 1, 0, 1])

    def test_parts_with_the_ground_are_not_free(self):
        board = [wire(0, 1, (0, 0), (100, 0), (200, 0), (300, 0)), wire(1, 1, (50, -50), (50, 50), (99, 50))]
        self.assertEqual(last(*board, fix(0, 0, 1), COUNTS), [2, 5, 3, 1, 3, 3])
        self.assertEqual(last(*board, fix(1, 0, 2), COUNTS), [2, 5, 3, 1, 3, 3])
        self.assertEqual(last(*board, fix(0, 0, 1), fix(1, 0, 2), COUNTS), [2, 5, 3, 1, 3, 3])
        self.assertEqual(last(*board, fix(0, 2, 2), COUNTS), [2, 5, 3, 1, 3, 3])
        fixed = [fix(0, 0, 1), fix(0, 1, 1), fix(0, 2, 1), fix(1, 1, 1)]
        self.assertEqual(last(*board, *fixed, COUNTS), [2, 5, 3, 1, 3, 0])

    def test_no_row_is_right(self):
        board = [wire(0, 1, (0, 0), (100, 0), (200, 0)), wire(1, 1, (50, -50), (50, 50))]
        self.assertEqual(last(*board, fix(0, 0, 1), fix(1, 0, 1), COUNTS), [2, 3, 1, 1, 1, -1])
        self.assertEqual(last(*board, fix(0, 0, 1), fix(1, 0, 2), COUNTS), [2, 3, 1, 1, 1, 1])
        three = board + [wire(2, 1, (30, -20), (70, 20))]
        self.assertEqual(last(*three, COUNTS), [3, 4, 1, 3, 1, -1])
        self.assertEqual(last(*three, away(1), COUNTS), [2, 3, 1, 1, 1, 2])

    def test_corners_that_are_barred_by_neighbours(self):
        board = [wire(0, 1, (-50, 0), (0, 0), (-50, 10)), wire(1, 1, (60, 0), (10, 0), (60, 10))]
        self.assertEqual(last(rules(1, 4), *board, COUNTS), [2, 4, 2, 0, 2, 4])
        self.assertEqual(last(rules(1, 5), *board, COUNTS), [2, 4, 2, 0, 0, 2])

    def test_a_full_board(self):
        board = [wire(k, 1, *[(10 * m, 1000 * k) for m in range(5)]) for k in range(24)]
        self.assertEqual(last(*board, COUNTS), [24, 96, 72, 0, 72, 96])
        self.assertEqual(last(rules(998, 1), *board, COUNTS), [24, 96, 72, 0, 72, 96])
        # Now each bar is too near to all four of the next wire, and no corner has room, so that all are one part.
        self.assertEqual(last(rules(999, 1), *board, COUNTS), [24, 96, 72, 23 * 16, 0, 1])


if __name__ == "__main__":
    unittest.main()
