"""Promise 14: check."""

import random
import unittest

from tests.helper import (BEST, CONFLICTS, RADIUS, away, bad_rows, check, corner, fix, last, price, rules, run, wire)

LYING = wire(0, 1, (-100, 0), (100, 0))
STANDING = wire(1, 1, (0, -100), (0, 100))
STRAIGHT = wire(0, 1, (0, 0), (100, 0), (200, 0), (300, 0))


class Check(unittest.TestCase):
    def test_no_bars(self):
        self.assertEqual(last(check([])), [0])

    def test_bars_in_conflict(self):
        for row in ([1, 1], [2, 2]):
            self.assertEqual(last(LYING, STANDING, check(row)), [1, 1, 0, 1])
        for row in ([1, 2], [2, 1]):
            self.assertEqual(last(LYING, STANDING, check(row)), [0])

    def test_barred_corners(self):
        board = [STRAIGHT, price(0, 1, 0)]
        for row in ([1, 1, 2], [1, 2, 1], [2, 1, 2], [2, 2, 1]):
            self.assertEqual(last(*board, check(row)), [1, 2, 1, 2])
        for row in ([1, 1, 1], [1, 2, 2], [2, 1, 1], [2, 2, 2]):
            self.assertEqual(last(*board, check(row)), [0])
        self.assertEqual(last(STRAIGHT, check([1, 2, 1])), [0])

    def test_fixed_bars(self):
        for place in range(3):
            for fixed in (1, 2):
                wrong = [fixed] * place + [3 - fixed] + [fixed] * (2 - place)
                board = [STRAIGHT, fix(0, place, fixed)]
                self.assertEqual(last(*board, check(wrong)), [1, 3, place, fixed])
                self.assertEqual(last(*board, check([fixed] * 3)), [0])
                self.assertEqual(last(*board, fix(0, place, 0), check(wrong)), [0])

    def test_the_order_of_links(self):
        # Corner 0 of the first wire costs nothing, as the one of the third does; bars of three wires cross bar 1.
        board = [wire(0, 1, (0, 0), (100, 0), (200, 0)), wire(1, 1, (120, -50), (120, 50)),
                 wire(2, 1, (150, 50), (150, -50), (110, -30)), wire(3, 1, (180, -50), (180, 50)),
                 price(2, 0, 0), price(0, 0, 0), fix(3, 0, 2), fix(1, 0, 2), fix(0, 0, 1), fix(2, 1, 1)]
        self.assertEqual(last(*board, CONFLICTS), [4, 1, 2, 1, 3, 1, 5, 2, 4])
        self.assertEqual(last(*board, check([2, 1, 1, 1, 2, 1])),
                         [9, 1, 1, 2, 1, 1, 3, 1, 1, 5, 2, 0, 1, 2, 3, 4, 3, 0, 1, 3, 2, 2, 3, 4, 1, 3, 5, 2])
        self.assertEqual(last(*board, check([1, 2, 2, 1, 2, 2])), [6, 1, 1, 2, 1, 1, 5, 1, 2, 4, 2, 0, 1, 2, 3, 4,
                                                                   3, 4, 1])
        self.assertEqual(last(*board, check([1, 1, 2, 2, 2, 2])), [2, 1, 2, 4, 3, 4, 1])
        self.assertEqual(last(*board, check([1, 1, 2, 1, 1, 2])), [1, 1, 1, 3])

    def test_the_last_bar_and_the_ground_are_told_apart(self):
        board = [LYING, STANDING, fix(1, 0, 1)]
        self.assertEqual(last(*board, check([1, 2])), [1, 3, 1, 1])
        self.assertEqual(last(*board, check([2, 2])), [2, 1, 0, 1, 3, 1, 1])
        self.assertEqual(last(STRAIGHT, price(0, 1, 0), fix(0, 2, 2), check([1, 2, 1])), [2, 2, 1, 2, 3, 2, 2])

    def test_a_corner_between_bars_in_conflict_with_one_bar(self):
        near = wire(1, 1, (100, 2), (100, 50))
        self.assertEqual(run(STRAIGHT, near, corner(0, 0))[-1], [0, 1, 2])
        self.assertEqual(last(STRAIGHT, near, check([1, 2, 1, 2])), [2, 1, 1, 3, 2, 0, 1])

    def test_where_no_row_is_right(self):
        board = [LYING, STANDING, fix(0, 0, 2), fix(1, 0, 2)]
        found = run(*board, check([1, 1]), check([1, 2]), check([2, 1]), check([2, 2]))[4:]
        self.assertEqual(found, [[3, 1, 0, 1, 3, 0, 2, 3, 1, 2], [1, 3, 0, 2], [1, 3, 1, 2], [1, 1, 0, 1]])

    def test_wrong_rows(self):
        for row in bad_rows(4):
            self.assertEqual(last(STRAIGHT, STANDING, check(row)), [-3], row[:5])
        for row in bad_rows(0):
            self.assertEqual(last(check(row)), [-3])

    def test_rows_follow_the_wires(self):
        found = run(STRAIGHT, check([1] * 3), STANDING, check([1] * 3), check([2] * 4), away(0), check([2] * 4),
                    check([1]))
        self.assertEqual([found[1], found[3], found[4], found[6], found[7]], [[0], [-3], [1, 1, 0, 3], [-3], [0]])

    def test_what_was_asked_before_does_not_stay(self):
        near = [wire(0, 1, (0, 0), (100, 0)), wire(1, 1, (0, 5), (100, 5))]
        found = run(*near, check([1, 1]), rules(4, 1), check([1, 1]), fix(0, 0, 2), check([1, 1]), rules(3, 1),
                    check([1, 1]))
        self.assertEqual([found[2], found[4], found[6], found[8]],
                         [[0], [1, 1, 0, 1], [2, 1, 0, 1, 3, 0, 2], [1, 3, 0, 2]])

    def test_35_calls_on_a_full_board(self):
        board = [wire(k, RADIUS, *[(m, k) for m in range(5)]) for k in range(24)]
        fixed = [fix(k, m, 2) for k in range(24) for m in range(4)]
        found = run(*board, *fixed, *[check([1] * 96)] * 35)
        pairs = [[1, a, b] for a in range(96) for b in range(a + 1, 96) if a // 4 != b // 4]
        told = [number for link in pairs + [[3, bar, 2] for bar in range(96)] for number in link]
        self.assertEqual(found[120], [len(told) // 3] + told)
        self.assertEqual(found[120:], [found[120]] * 35)
        rng = random.Random(2)
        row = [rng.randint(1, 2) for k in range(96)]
        kept = [[1, a, b] for kind, a, b in pairs if row[a] == row[b]]
        kept += [[2, bar, bar + 1] for bar in range(95) if bar % 4 != 3 and row[bar] != row[bar + 1]]
        kept += [[3, bar, 2] for bar in range(96) if row[bar] == 1]
        self.assertEqual(last(*board, *fixed, check(row)), [len(kept)] + [number for link in kept for number in link])

    def test_best_keeps_all(self):
        board = [STRAIGHT, STANDING, wire(2, 1, (150, -50), (150, 50)), fix(0, 2, 2), price(0, 0, 0)]
        self.assertEqual(last(*board, check(last(*board, BEST)[2:])), [0])


if __name__ == "__main__":
    unittest.main()
