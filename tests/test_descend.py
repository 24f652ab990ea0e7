"""Promise 20: descend."""

import itertools
import unittest

from tests.helper import BEST, GREEDY, away, bad_rows, check, cost, descend, fix, last, price, rules, run, straight, wire

LYING = wire(0, 1, (-100, 0), (100, 0))
STANDING = wire(1, 1, (0, -100), (0, 100))
SLANTED = wire(2, 1, (-50, -50), (50, 50))
# Bar 1 crosses bar 4, bars 4 and 5 have a corner, and bar 5 is fixed; bar 3 is fixed too.
BOARD = [straight(4), price(0, 0, 4), price(0, 1, 3), price(0, 2, 6),
         wire(1, 1, (150, -50), (150, 50), (150, 90)), price(1, 0, 2), fix(1, 1, 2), fix(0, 3, 2)]


def right_rows(board, count):
    return [list(row) for row in itertools.product((1, 2), repeat=count) if last(*board, check(row)) == [0]]


class Descend(unittest.TestCase):
    def test_no_bars(self):
        self.assertEqual(last(descend([])), [0, 0])

    def test_a_row_that_nothing_makes_cheaper(self):
        self.assertEqual(last(straight(3), descend([2, 2, 2])), [0, 3, 2, 2, 2])
        self.assertEqual(last(LYING, STANDING, descend([2, 1])), [0, 2, 2, 1])
        # To change both of two bars would help, but to change one of them doesn't.
        board = [straight(4), fix(0, 0, 1), fix(0, 3, 1), price(0, 1, 5)]
        self.assertEqual(last(*board, descend([1, 2, 2, 1])), [2, 4, 1, 2, 2, 1])
        self.assertEqual(last(*board, BEST), [0, 4, 1, 1, 1, 1])

    def test_a_change_that_costs_as_much_is_not_made(self):
        board = [straight(3), fix(0, 0, 1), fix(0, 2, 2)]
        self.assertEqual(last(*board, descend([1, 1, 2])), [1, 3, 1, 1, 2])
        self.assertEqual(last(*board, descend([1, 2, 2])), [1, 3, 1, 2, 2])
        self.assertEqual(last(*board, price(0, 1, 2), descend([1, 1, 2])), [1, 3, 1, 2, 2])
        self.assertEqual(last(*board, price(0, 0, 2), descend([1, 2, 2])), [1, 3, 1, 1, 2])

    def test_the_first_part_is_changed_not_the_one_that_helps_most(self):
        # Bar 0's change saves 1, bar 1's would save 2.
        self.assertEqual(last(straight(3), descend([1, 2, 1])), [0, 3, 2, 2, 2])
        self.assertEqual(last(straight(3), fix(0, 2, 1), descend([1, 2, 1])), [1, 3, 2, 2, 1])
        self.assertEqual(last(straight(3), price(0, 1, 9), fix(0, 2, 1), descend([1, 2, 1])), [0, 3, 1, 1, 1])
        self.assertEqual(last(straight(2), price(0, 0, 9), descend([2, 1])), [0, 2, 1, 1])
        self.assertEqual(last(straight(2), price(0, 0, 9), descend([1, 2])), [0, 2, 2, 2])

    def test_it_is_looked_for_anew_each_time(self):
        # Bar 0 crosses bar 3, and their part comes first: its change helps only behind that of bar 2, and then it's
        # changed ahead of bar 4. To go on with bar 4, or to take the change that helps most, ends at a cost of 2.
        board = [wire(1, 1, (250, -50), (250, 50)), straight(4), price(1, 0, 3), price(1, 1, 2), price(1, 2, 2),
                 fix(1, 0, 1)]
        self.assertEqual(last(*board, descend([1, 1, 2, 2, 1])), [0, 5, 2, 1, 1, 1, 1])
        self.assertEqual(last(*board, descend([1, 1, 1, 2, 2])), [2, 5, 1, 1, 1, 2, 2])

    def test_a_part_is_changed_and_changed_back(self):
        # By turns: bar 0 to layer 2, bar 1 to 1, bar 0 to 1, bar 2 to 2, bar 1 to 2, bar 0 to 2.
        board = [straight(4), price(0, 0, 2), price(0, 1, 5), price(0, 2, 9)]
        self.assertEqual(last(*board, descend([1, 2, 1, 2])), [0, 4, 2, 2, 2, 2])
        self.assertEqual(last(*board, fix(0, 3, 2), descend([1, 2, 1, 2])), [0, 4, 2, 2, 2, 2])
        self.assertEqual(last(*board, fix(0, 3, 1), descend([2, 1, 2, 1])), [0, 4, 1, 1, 1, 1])

    def test_several_parts_make_it_cheaper(self):
        self.assertEqual(last(straight(6), descend([1, 2, 1, 2, 1, 2])), [0, 6, 2, 2, 2, 2, 2, 2])
        long = straight(15)
        self.assertEqual(last(long, cost([1 + k % 2 for k in range(15)])), [14, 14])
        found = last(long, descend([1 + k % 2 for k in range(15)]))
        self.assertEqual(found[:2], [0, 15])
        self.assertEqual(last(long, descend(found[2:])), found)

    def test_whole_parts_are_changed(self):
        board = [straight(2), wire(1, 1, (150, -50), (150, 50), (150, 90)), price(1, 0, 5), fix(1, 1, 1)]
        # Bars 1 and 2 are one part, and its change saves the dear corner.
        self.assertEqual(last(*board, descend([1, 1, 2, 1])), [0, 4, 2, 2, 1, 1])
        self.assertEqual(last(*board, fix(0, 0, 1), descend([1, 1, 2, 1])), [1, 4, 1, 2, 1, 1])
        self.assertEqual(last(*board, fix(0, 0, 1), price(0, 0, 6), descend([1, 2, 1, 1])), [5, 4, 1, 1, 2, 1])

    def test_the_grounds_part_is_never_changed(self):
        board = [straight(3), fix(0, 0, 1), fix(0, 1, 2), fix(0, 2, 1)]
        self.assertEqual(last(*board, descend([1, 2, 1])), [2, 3, 1, 2, 1])
        self.assertEqual(last(straight(2), fix(0, 0, 2), descend([2, 1])), [0, 2, 2, 2])

    def test_every_right_row(self):
        rows = right_rows(BOARD, 6)
        self.assertEqual(len(rows), 8)
        least = last(*BOARD, BEST)[0]
        for row in rows:
            found = last(*BOARD, descend(row))
            self.assertEqual(found[1], 6)
            self.assertIn(found[2:], rows)
            self.assertEqual(last(*BOARD, cost(found[2:]))[1], found[0])
            self.assertLessEqual(found[0], last(*BOARD, cost(row))[1])
            self.assertGreaterEqual(found[0], least)
            self.assertEqual(last(*BOARD, descend(found[2:])), found)
        # By turns: bar 0 to layer 2, bars 1 and 4 to 1 and 2, bar 0 to 1, bar 2 to 2.
        self.assertEqual(last(*BOARD, descend([1, 2, 1, 2, 1, 2])), [3, 6, 1, 1, 2, 2, 2, 2])

    def test_greedy_made_better(self):
        board = [straight(3), price(0, 0, 4), price(0, 1, 6), fix(0, 2, 2)]
        found = run(*board, GREEDY, descend([1, 2, 2]))
        self.assertEqual(found[-2:], [[4, 3, 1, 2, 2], [0, 3, 2, 2, 2]])

    def test_more_than_12_free_parts(self):
        board = [straight(4, 0, 1000 * k) for k in range(24)]
        found = last(*board, descend([1, 2, 1, 2] * 24))
        self.assertEqual(found[:2], [0, 96])
        self.assertEqual(last(*board, descend(found[2:])), found)

    def test_no_row_is_right(self):
        for row in ([1, 2, 1], [1, 1, 1], [], [3, 3, 3]):
            self.assertEqual(last(LYING, STANDING, SLANTED, descend(row)), [-8])

    def test_wrong_rows(self):
        for row in bad_rows(6):
            self.assertEqual(last(*BOARD, descend(row)), [-3], row[:7])
        for row in bad_rows(0):
            self.assertEqual(last(descend(row)), [-3])

    def test_rows_that_are_not_right(self):
        self.assertEqual(run(LYING, STANDING, descend([1, 1]), descend([2, 2]))[2:], [[-10], [-10]])
        barred = [straight(3), price(0, 1, 0)]
        self.assertEqual(run(*barred, descend([1, 1, 2]), descend([1, 2, 2]))[2:], [[-10], [0, 3, 2, 2, 2]])
        fixed = [straight(2), fix(0, 0, 2)]
        self.assertEqual(run(*fixed, descend([1, 1]), descend([2, 1]))[2:], [[-10], [0, 2, 2, 2]])
        rows = right_rows(BOARD, 6)
        for row in itertools.product((1, 2), repeat=6):
            self.assertEqual(last(*BOARD, descend(row)) == [-10], list(row) not in rows)

    def test_the_order_of_refusals(self):
        broken = [LYING, STANDING, fix(0, 0, 1), fix(1, 0, 1)]
        for row in ([1], [0, 0], [1, 1], [1, 2]):
            self.assertEqual(last(*broken, descend(row)), [-8])
        self.assertEqual(run(LYING, STANDING, descend([1]), descend([1, 1, 1]), descend([0, 0]))[2:], [[-3]] * 3)

    def test_what_was_asked_before_does_not_stay(self):
        found = run(straight(2), descend([1, 2]), price(0, 0, 0), descend([1, 2]), fix(0, 0, 1), descend([2, 2]),
                    price(0, 0, 3), fix(0, 1, 2), descend([1, 2]), rules(2, 2), away(0), descend([]))
        self.assertEqual([found[1], found[3], found[5], found[8], found[11]],
                         [[0, 2, 2, 2], [-10], [-10], [3, 2, 1, 2], [0, 0]])


if __name__ == "__main__":
    unittest.main()
