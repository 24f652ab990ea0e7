"""Promise 19: flip."""

import itertools
import unittest

from tests.helper import HIGH, LOW, away, bad_rows, check, fix, flip, last, price, run, wire

LYING = wire(0, 1, (-100, 0), (100, 0))
STANDING = wire(1, 1, (0, -100), (0, 100))
SLANTED = wire(2, 1, (-50, -50), (50, 50))
# Parts: bars 0 and 4, which cross; bars 1 and 2, at a barred corner; bar 3; bars 5 and 6, of which 6 is fixed.
BOARD = [wire(0, 1, (0, 0), (100, 0), (200, 0), (300, 0), (400, 0)), price(0, 1, 0), wire(1, 1, (50, -50), (50, 50)),
         wire(0, 1, (0, 900), (100, 900), (200, 900)), price(2, 0, 0), fix(2, 1, 2)]
PARTS = [(0, 4), (1, 2), (3,)]


class Flip(unittest.TestCase):
    def test_every_row_and_bar(self):
        for row in itertools.product((1, 2), repeat=7):
            for part in PARTS:
                told = [3 - here if k in part else here for k, here in enumerate(row)]
                for bar in part:
                    self.assertEqual(last(*BOARD, flip(bar, row)), [7] + told)

    def test_twice_is_as_before(self):
        row = [1, 2, 1, 1, 2, 2, 1]
        for bar in range(5):
            self.assertEqual(last(*BOARD, flip(bar, last(*BOARD, flip(bar, row))[1:])), [7] + row)

    def test_a_right_row_stays_right(self):
        row = [1, 2, 2, 1, 2, 2, 2]
        self.assertEqual(last(*BOARD, check(row)), [0])
        for bar in range(5):
            self.assertEqual(last(*BOARD, check(last(*BOARD, flip(bar, row))[1:])), [0])

    def test_a_part_with_the_ground(self):
        for bar in (5, 6):
            self.assertEqual(last(*BOARD, flip(bar, [1] * 7)), [-7])
            self.assertEqual(last(*BOARD, fix(2, 1, 1), flip(bar, [1] * 7)), [-7])
            self.assertEqual(last(*BOARD, fix(2, 1, 0), flip(bar, [1] * 7)), [7, 1, 1, 1, 1, 1, 2, 2])
        self.assertEqual(last(*BOARD, fix(0, 0, 1), flip(4, [1] * 7)), [-7])

    def test_no_row_is_right(self):
        self.assertEqual(last(LYING, STANDING, SLANTED, flip(0, [1, 2, 1])), [-8])
        self.assertEqual(last(LYING, STANDING, SLANTED, wire(9, 1, (500, 0), (600, 0)), flip(3, [1, 2, 1, 1])), [-8])

    def test_no_such_bar(self):
        for bar in (-1, 7, 8, LOW, HIGH):
            self.assertEqual(last(*BOARD, flip(bar, [1] * 7)), [-6])
        self.assertEqual(run(flip(0, []), flip(-1, [])), [[-6], [-6]])

    def test_wrong_rows(self):
        for row in bad_rows(7):
            self.assertEqual(run(*BOARD, flip(0, row), flip(3, row))[-2:], [[-3], [-3]], row[:8])

    def test_the_order_of_refusals(self):
        broken = BOARD + [fix(0, 0, 1), fix(1, 0, 1)]
        for bar, row in ((7, [1]), (7, [1] * 7), (0, [1]), (0, [1] * 7), (3, [1] * 7), (-1, [])):
            self.assertEqual(last(*broken, flip(bar, row)), [-8])
        for row in ([], [1] * 6, [1] * 8, [0] * 7):
            self.assertEqual(run(*BOARD, flip(7, row), flip(-1, row))[-2:], [[-6], [-6]])
            self.assertEqual(run(*BOARD, flip(6, row), flip(5, row))[-2:], [[-3], [-3]])
        self.assertEqual(run(flip(0, [1])), [[-6]])

    def test_what_was_asked_before_does_not_stay(self):
        row = [1, 1, 1, 1, 1, 1, 1]
        found = run(*BOARD, flip(1, row), price(0, 1, 1), flip(1, row), away(1), flip(0, row[:6]), flip(5, row[:6]),
                    fix(1, 1, 0), flip(5, row[:6]))
        self.assertEqual([found[6], found[8]], [[7, 1, 2, 2, 1, 1, 1, 1], [7, 1, 2, 1, 1, 1, 1, 1]])
        self.assertEqual([found[10], found[11], found[13]], [[6, 2, 1, 1, 1, 1, 1], [-7], [6, 1, 1, 1, 1, 2, 2]])

    def test_a_full_board(self):
        board = [wire(k, 1, *[(10 * m, 2 * k) for m in range(5)]) for k in range(24)]
        row = [1 + k // 4 % 2 for k in range(96)]
        self.assertEqual(last(*board, flip(95, row)), [96] + [3 - here for here in row])


if __name__ == "__main__":
    unittest.main()
