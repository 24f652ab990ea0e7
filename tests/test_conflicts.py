"""Promise 8: conflicts."""

import unittest

from tests.helper import BIG, CONFLICTS, RADIUS, away, last, rules, wire

NONE = [0]
ONE = [1, 0, 1]


def two(first, second, radius=1, other=1):
    """What conflicts answers of two bars of unlike nets, and of the same ones in the other order."""
    there = last(wire(0, radius, *first), wire(1, other, *second), CONFLICTS)
    back = last(wire(1, other, *reversed(second)), wire(0, radius, *reversed(first)), CONFLICTS)
    if there != back:
        raise AssertionError(f"{there} one way, {back} the other")
    return there


class Conflicts(unittest.TestCase):
    def test_none(self):
        self.assertEqual(last(CONFLICTS), NONE)
        self.assertEqual(last(wire(0, 1, (0, 0), (9, 9)), CONFLICTS), NONE)

    def test_bars_that_cross(self):
        self.assertEqual(two([(-100, 0), (100, 0)], [(0, -100), (0, 100)]), ONE)
        self.assertEqual(two([(-100, -100), (100, 100)], [(-100, 100), (100, -99)]), ONE)
        self.assertEqual(two([(-BIG, -BIG), (BIG, BIG)], [(-BIG, BIG), (BIG, -BIG)]), ONE)
        self.assertEqual(two([(-BIG, -BIG), (BIG, BIG - 1)], [(-BIG, -BIG + 1), (BIG, BIG - 2)]), ONE)

    def test_lines_that_would_cross_further_on(self):
        self.assertEqual(two([(0, 0), (100, 0)], [(50, 3), (50, 100)]), NONE)
        self.assertEqual(two([(0, 0), (100, 0)], [(50, 2), (50, 100)]), ONE)
        self.assertEqual(two([(0, 0), (100, 0)], [(103, -50), (103, 50)]), NONE)
        self.assertEqual(two([(0, 0), (100, 0)], [(102, -50), (102, 50)]), ONE)

    def test_bars_that_touch_or_share_a_point(self):
        self.assertEqual(two([(0, 0), (100, 0)], [(50, 0), (50, 100)]), ONE)
        self.assertEqual(two([(0, 0), (100, 0)], [(100, 0), (100, 100)]), ONE)
        self.assertEqual(two([(0, 0), (100, 0)], [(100, 0), (200, 0)]), ONE)
        self.assertEqual(two([(0, 0), (100, 0)], [(0, 0), (100, 0)]), ONE)
        self.assertEqual(two([(0, 0), (100, 0)], [(100, 0), (0, 0)]), ONE)

    def test_bars_along_one_line(self):
        self.assertEqual(two([(0, 0), (100, 0)], [(103, 0), (200, 0)]), NONE)
        self.assertEqual(two([(0, 0), (100, 0)], [(102, 0), (200, 0)]), ONE)
        self.assertEqual(two([(0, 0), (100, 0)], [(50, 0), (200, 0)]), ONE)
        self.assertEqual(two([(0, 0), (100, 0)], [(40, 0), (60, 0)]), ONE)
        self.assertEqual(two([(0, 0), (30, 40)], [(33, 44), (60, 80)], 2, 2), NONE)
        self.assertEqual(two([(0, 0), (30, 40)], [(33, 44), (60, 80)], 2, 3), ONE)

    def test_parallel_bars(self):
        self.assertEqual(two([(0, 0), (100, 0)], [(0, 3), (100, 3)]), NONE)
        self.assertEqual(two([(0, 0), (100, 0)], [(0, 2), (100, 2)]), ONE)
        self.assertEqual(two([(0, 0), (100, 0)], [(0, -3), (100, -3)]), NONE)
        self.assertEqual(two([(0, 0), (100, 0)], [(0, -2), (100, -2)]), ONE)
        self.assertEqual(two([(0, 0), (100, 0)], [(103, 4), (200, 4)], 2, 2), NONE)
        self.assertEqual(two([(0, 0), (100, 0)], [(103, 4), (200, 4)], 2, 3), ONE)

    def test_each_radius_counts(self):
        self.assertEqual(two([(0, 0), (100, 0)], [(0, 13), (100, 13)], 5, 7), NONE)
        self.assertEqual(two([(0, 0), (100, 0)], [(0, 13), (100, 13)], 6, 7), ONE)
        self.assertEqual(two([(0, 0), (100, 0)], [(0, 13), (100, 13)], 5, 8), ONE)

    def test_distances_that_are_no_whole_numbers(self):
        # The squares are 2998 * 2998 and 2996 * 2996, each over 998050: a little above 9 and a little below.
        self.assertEqual(two([(0, 0), (999, 7)], [(428, 6), (428, 100)]), NONE)
        self.assertEqual(two([(0, 0), (999, 7)], [(571, 7), (571, 100)]), ONE)
        # Nearest just inside the bar's end, at a square of 25 less one thirteenth; then at the end itself, at 25.
        self.assertEqual(two([(0, 0), (3, -2)], [(3, 4), (30, 40)], 2, 2), ONE)
        self.assertEqual(two([(0, 0), (4, -3)], [(3, 4), (30, 40)], 2, 2), NONE)
        # 8 is below 9: the ends are (2, 2) apart.
        self.assertEqual(two([(0, 0), (-50, 0)], [(2, 2), (50, 2)]), ONE)
        # 10 is above 9: the ends are (3, 1) apart.
        self.assertEqual(two([(0, 0), (-50, 0)], [(3, 1), (50, 1)]), NONE)

    def test_the_greatest_numbers(self):
        three = [(0, 0), (-BIG, 0)]
        far = rules(RADIUS, 1)
        for x, found in ((180000000, NONE), (179999999, ONE)):
            board = [wire(0, RADIUS, *three), wire(BIG, RADIUS, (x, 240000000), (BIG, BIG))]
            self.assertEqual(last(far, *board, CONFLICTS), found)
        # The square of the gap is the square of 288000001, less 1.
        for radius, found in ((96000000, NONE), (96000001, ONE)):
            board = [wire(0, radius, *three), wire(1, 96000000, (288000000, 24000), (BIG, BIG))]
            self.assertEqual(last(rules(96000000, 1), *board, CONFLICTS), found)
        slanted = [(-BIG, -BIG), (BIG, BIG - 1)]
        # The squares of the gaps are 3.5 * 3.5 / 2 and 5.5 * 5.5 / 2, but for a trace.
        self.assertEqual(two(slanted, [(0, 3), (-5, 50)]), ONE)
        self.assertEqual(two(slanted, [(-5, 0), (-50, 50)]), NONE)

    def test_one_net_has_no_conflicts(self):
        board = [wire(4, 1, (-100, 0), (100, 0)), wire(4, 1, (0, -100), (0, 100))]
        self.assertEqual(last(*board, CONFLICTS), NONE)
        itself = wire(4, 1, (-100, 0), (100, 0), (0, 100), (0, -100))
        self.assertEqual(last(itself, CONFLICTS), NONE)
        self.assertEqual(last(*board, wire(5, 1, (-50, -50), (50, 50)), CONFLICTS), [2, 0, 2, 1, 2])

    def test_the_order_of_pairs(self):
        lying = [(0, 0), (100, 0), (200, 0)]
        board = [wire(0, 1, *lying), wire(1, 1, (150, -50), (150, 50), (50, 50), (50, -50)),
                 wire(2, 1, (20, -50), (20, 60), (170, 60), (170, -50))]
        self.assertEqual(last(*board, CONFLICTS), [4, 0, 4, 0, 5, 1, 2, 1, 7])
        self.assertEqual(last(*board, away(1), CONFLICTS), [2, 0, 2, 1, 4])
        nested = board[1:] + [wire(3, 1, (0, 55), (300, 55))]
        self.assertEqual(last(*nested, CONFLICTS), [2, 3, 6, 5, 6])

    def test_all_bars_of_a_full_board(self):
        board = [wire(k, 1, (0, 0), (k + 1, 50), (0, 0), (k + 1, 60), (0, 0)) for k in range(24)]
        pairs = [(a, b) for a in range(96) for b in range(a + 1, 96) if a // 4 != b // 4]
        self.assertEqual(last(*board, CONFLICTS), [len(pairs)] + [number for pair in pairs for number in pair])


if __name__ == "__main__":
    unittest.main()
