"""Promise 18: less."""

import unittest

from tests.helper import (BEST, CONFLICTS, COUNTS, GREEDY, HIGH, LOW, PARTS, RING, WIRES, away, check, corner, fix,
                          last, less, price, rules, run, straight, wire)

LYING = wire(0, 1, (-100, 0), (100, 0))
STANDING = wire(1, 1, (0, -100), (0, 100))
SLANTED = wire(2, 1, (-50, -50), (50, 50))
# Bars 0 and 2 are unlike by way of the two slanted wires, which cross one another; the ends of the last are fixed.
BOARD = [straight(3), price(0, 0, 3), price(0, 1, 5), wire(1, 1, (50, -50), (250, 250)),
         wire(2, 1, (250, -50), (50, 250)), straight(2, 4, 900), price(3, 0, 40), fix(3, 0, 1), fix(3, 1, 2)]


class Less(unittest.TestCase):
    def test_each_wire(self):
        self.assertEqual(last(*BOARD, BEST)[0], 43)
        self.assertEqual(run(*BOARD, less(0), less(1), less(2), less(3))[-4:], [[40], [40], [40], [3]])

    def test_it_is_best_without_the_wire(self):
        boards = [BOARD, BOARD + [fix(0, 0, 2)], BOARD + [fix(0, 0, 1), fix(0, 2, 1)], [LYING, STANDING, SLANTED],
                  [rules(30, 20)] + BOARD, [straight(13), LYING], [straight(14), LYING], [LYING]]
        for board in boards:
            count = last(*board, COUNTS)[0]
            for k in range(count):
                self.assertEqual(last(*board, less(k)), last(*board, away(k), BEST)[:1])

    def test_the_board_stays_as_it_was(self):
        asks = [WIRES, COUNTS, CONFLICTS, RING, PARTS, BEST, GREEDY, check([1] * 7), corner(0, 0), corner(3, 0)]
        for k in (0, 1, 2, 3, 4):
            found = run(*BOARD, *asks, less(k), *asks)
            self.assertEqual(found[len(BOARD):-len(asks) - 1], found[-len(asks):])
            self.assertEqual(run(*BOARD, less(k), *asks)[-len(asks):], found[-len(asks):])

    def test_the_board_may_be_changed_behind_it(self):
        # What was measured for the question must not be missed, nor stay, when wires go and come.
        for k in range(4):
            for gone in range(4):
                changed = BOARD + [away(gone), SLANTED, LYING]
                asks = [CONFLICTS, PARTS, BEST, less(0), less(4)]
                found = run(*BOARD, less(k), *changed[len(BOARD):], *asks)
                self.assertEqual(found[-5:], run(*changed, *asks)[-5:])

    def test_the_last_wire(self):
        self.assertEqual(last(straight(3), fix(0, 0, 1), fix(0, 2, 2), less(0)), [0])

    def test_a_wire_that_barred_a_corner(self):
        ends = [straight(2), fix(0, 0, 1), fix(0, 1, 2), wire(1, 1, (100, 5), (100, 50)), rules(1, 5)]
        self.assertEqual(run(*ends, corner(0, 0), BEST, less(1))[-3:], [[0, 1, 2], [-8], [1]])
        disc = [straight(2), fix(0, 0, 1), fix(0, 1, 2), wire(1, 1, (50, 90), (100, 10), (150, 90)), rules(1, 5)]
        self.assertEqual(run(*disc, corner(0, 0), BEST, less(1))[-3:], [[0, 1, 3], [-8], [1]])

    def test_the_rules_count(self):
        near = [straight(1), straight(1, 1, 10), straight(1, 2, 20), straight(1, 3, 900)]
        self.assertEqual(run(*near, less(3), rules(19, 1), less(3), less(0), less(1), less(2))[4:],
                         [[0], [0], [-8], [0], [0], [0]])
        self.assertEqual(last(rules(19, 1), *near, less(3)), [-8])

    def test_no_such_wire(self):
        self.assertEqual(run(less(0)), [[-1]])
        for bad in (-1, 4, LOW, HIGH):
            self.assertEqual(last(*BOARD, less(bad)), [-1])

    def test_no_row_is_right_without_it(self):
        board = [LYING, STANDING, SLANTED, straight(2, 9, 700)]
        self.assertEqual(run(*board, less(0), less(1), less(2), less(3))[4:], [[0], [0], [0], [-8]])

    def test_too_many_free_parts_without_it(self):
        board = [straight(13), straight(2, 0, 500), straight(1, 0, 900)]
        self.assertEqual(run(*board, BEST, less(0), less(1), less(2))[3:], [[-9], [0], [-9], [-9]])
        # Only without the wire that joins bars there are too many, or only with it.
        joined = [straight(13), wire(1, 1, (50, -20), (50, 20), (250, 20), (250, -20)), fix(1, 1, 1)]
        self.assertEqual(run(*joined, BEST, less(0), less(1))[3:], [[-9], [0], [-9]])
        self.assertEqual(run(straight(12), straight(1, 0, 500), BEST, less(1))[2:], [[-9], [0]])
        held = [straight(13), wire(1, 5, (95, 20), (105, 20)), rules(1, 18)]
        self.assertEqual(run(*held, corner(0, 0), BEST, less(1))[3:], [[0, 1, 2], [-9], [-9]])

    def test_the_order_of_refusals(self):
        board = [LYING, STANDING, SLANTED, straight(14, 9, 700)]
        self.assertEqual(run(*board, less(4), less(-1), less(3), less(2))[4:], [[-1], [-1], [-8], [-9]])
        # A board that's broken and has more than 12 parts that nothing holds is refused as broken.
        board = [LYING, STANDING, SLANTED, straight(14, 9, 700), straight(1, 9, 900)]
        self.assertEqual(last(*board, less(4)), [-8])

    def test_every_wire_of_a_full_board(self):
        # Each wire is too near to the next one, and no corner has room, so that all stand to the first one.
        board = [wire(k % 2, 1, *[(10 * m, 2 * k) for m in range(5)]) for k in range(24)]
        asks = [BEST] + [less(k) for k in range(25)]
        row = [1 + k // 4 % 2 for k in range(96)]
        found = run(*board, fix(0, 0, 1), fix(23, 3, 2), *asks)
        self.assertEqual(found[26:], [[0, 96] + row] + [[0]] * 24 + [[-1]])
        found = run(*board, fix(0, 0, 1), fix(23, 3, 1), *asks)
        self.assertEqual(found[26:], [[-8]] + [[0]] * 24 + [[-1]])


if __name__ == "__main__":
    unittest.main()
