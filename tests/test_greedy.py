"""Promise 13: greedy."""

import unittest

from tests.helper import COUNTS, GREEDY, fix, last, price, run, straight, wire

LYING = wire(0, 1, (-100, 0), (100, 0))
STANDING = wire(1, 1, (0, -100), (0, 100))


class Greedy(unittest.TestCase):
    def test_no_bars(self):
        self.assertEqual(last(GREEDY), [0, 0])

    def test_layer_1_if_neither_is_cheaper(self):
        self.assertEqual(last(straight(4), GREEDY), [0, 4, 1, 1, 1, 1])
        # Bar 1 lies between a bar on layer 1 and one on layer 2, and both corners cost the same.
        self.assertEqual(last(straight(3), fix(0, 0, 1), fix(0, 2, 2), GREEDY), [1, 3, 1, 1, 2])
        self.assertEqual(last(straight(3), fix(0, 0, 2), fix(0, 2, 1), GREEDY), [1, 3, 2, 1, 1])

    def test_layer_2_if_it_is_cheaper(self):
        ends = [straight(3), fix(0, 0, 1), fix(0, 2, 2)]
        self.assertEqual(last(*ends, price(0, 1, 2), GREEDY), [1, 3, 1, 2, 2])
        self.assertEqual(last(*ends, price(0, 0, 2), GREEDY), [1, 3, 1, 1, 2])

    def test_the_grounds_part_is_settled_at_first(self):
        self.assertEqual(last(straight(2), fix(0, 1, 2), GREEDY), [0, 2, 2, 2])
        self.assertEqual(last(straight(2), fix(0, 0, 2), GREEDY), [0, 2, 2, 2])
        self.assertEqual(last(straight(4), fix(0, 0, 2), GREEDY), [0, 4, 2, 2, 2, 2])

    def test_parts_that_are_not_settled_yet_do_not_count(self):
        # Bar 0 doesn't see bar 2, and bar 1 has to mend it.
        self.assertEqual(last(straight(3), fix(0, 2, 2), GREEDY), [1, 3, 1, 1, 2])
        self.assertEqual(last(straight(3), price(0, 1, 5), fix(0, 2, 2), GREEDY), [1, 3, 1, 2, 2])
        self.assertEqual(last(straight(5), fix(0, 4, 2), GREEDY), [1, 5, 1, 1, 1, 1, 2])
        self.assertEqual(last(straight(5), price(0, 3, 2), fix(0, 4, 2), GREEDY), [1, 5, 1, 1, 1, 2, 2])

    def test_parts_come_by_their_heads(self):
        # Bar 3 crosses bar 1, and bar 2 is alone: the part of 1 and 3 is settled ahead of bar 2's.
        board = [straight(3), wire(1, 1, (150, -50), (150, 50), (150, 90)), price(0, 0, 5), price(0, 1, 7)]
        self.assertEqual(last(*board, fix(1, 1, 1), GREEDY), [1, 5, 1, 1, 1, 2, 1])
        self.assertEqual(last(*board, price(1, 0, 9), fix(1, 1, 1), GREEDY), [5, 5, 1, 2, 2, 1, 1])
        self.assertEqual(last(*board, price(1, 0, 9), fix(1, 1, 2), GREEDY), [0, 5, 1, 1, 1, 2, 2])

    def test_several_corners_count_together(self):
        # Bars 4 and 5 cross bar 1, so that each of them is like the other one; both have dear corners.
        board = [wire(0, 1, (0, 0), (100, 0), (200, 0), (300, 0)), wire(1, 1, (120, -90), (120, -50), (120, 50)),
                 wire(1, 1, (180, 50), (180, -50), (180, -90)), price(0, 0, 5), price(0, 1, 4), price(1, 0, 3),
                 price(2, 0, 3), fix(0, 0, 1), fix(1, 0, 1), fix(2, 1, 1)]
        self.assertEqual(last(*board, GREEDY), [5, 7, 1, 2, 2, 1, 1, 1, 1])
        self.assertEqual(last(*board, price(0, 0, 6), GREEDY), [6, 7, 1, 1, 1, 1, 2, 2, 1])
        self.assertEqual(last(*board, price(0, 0, 7), GREEDY), [6, 7, 1, 1, 1, 1, 2, 2, 1])

    def test_barred_corners_do_not_count(self):
        board = [straight(3), price(0, 0, 0), fix(0, 2, 2)]
        self.assertEqual(last(*board, GREEDY), [0, 3, 2, 2, 2])

    def test_a_via_within_one_part_is_counted(self):
        board = [wire(0, 1, (0, 0), (100, 0), (200, 0)), wire(1, 1, (40, -20), (150, 200)),
                 wire(2, 1, (160, -20), (50, 200)), price(0, 0, 9)]
        self.assertEqual(last(*board, GREEDY), [9, 4, 1, 2, 2, 1])
        self.assertEqual(last(*board, fix(0, 0, 2), GREEDY), [9, 4, 2, 1, 1, 2])

    def test_more_than_12_free_parts(self):
        self.assertEqual(last(straight(13), GREEDY), [0, 13] + [1] * 13)
        board = [straight(4, 0, 1000 * k) for k in range(24)]
        found = run(*board, *[fix(k, k % 4, 2) for k in range(24)], COUNTS, GREEDY)
        self.assertEqual(found[-2][5], 72)
        row = [2, 2, 2, 2] + [2, 2, 2, 2] + [1, 1, 2, 2] + [1, 1, 1, 2]
        self.assertEqual(found[-1], [12, 96] + row * 6)

    def test_no_row_is_right(self):
        self.assertEqual(last(LYING, STANDING, fix(0, 0, 2), fix(1, 0, 2), GREEDY), [-8])
        self.assertEqual(last(LYING, STANDING, wire(2, 1, (-50, -50), (50, 50)), GREEDY), [-8])

    def test_what_was_asked_before_does_not_stay(self):
        found = run(straight(2), GREEDY, fix(0, 1, 2), GREEDY, price(0, 0, 0), GREEDY, fix(0, 0, 1), GREEDY)
        self.assertEqual([found[1], found[3], found[5], found[7]], [[0, 2, 1, 1], [0, 2, 2, 2], [0, 2, 2, 2], [-8]])


if __name__ == "__main__":
    unittest.main()
