"""Promises 2 and 5: away and clear."""

import unittest

from tests.helper import (CLEAR, CONFLICTS, COUNTS, HIGH, LOW, RING, WIRES, away, corner, fix, last, price, rules, run,
                          wire)

FIRST = wire(0, 1, (-100, 0), (0, 0), (100, 0))
SECOND = wire(1, 2, (50, -100), (50, 100))
THIRD = wire(2, 3, (-50, -100), (-50, 0), (-50, 100))


class Away(unittest.TestCase):
    def test_those_behind_it_move_up(self):
        for gone, kept in ((0, [SECOND, THIRD]), (1, [FIRST, THIRD]), (2, [FIRST, SECOND])):
            found = run(FIRST, SECOND, THIRD, away(gone), WIRES, COUNTS, CONFLICTS, RING)
            self.assertEqual(found[3], [0])
            self.assertEqual(found[4:], run(*kept, WIRES, COUNTS, CONFLICTS, RING)[2:])

    def test_what_was_asked_before_does_not_stay(self):
        asks = [WIRES, COUNTS, CONFLICTS, corner(0, 0), RING]
        for gone, kept in ((0, [SECOND, THIRD]), (1, [FIRST, THIRD]), (2, [FIRST, SECOND])):
            found = run(FIRST, SECOND, THIRD, *asks, away(gone), *asks)
            self.assertEqual(found[-5:], run(*kept, *asks)[-5:])

    def test_prices_and_fixed_bars_go_with_their_wire(self):
        found = last(FIRST, SECOND, THIRD, price(2, 0, 7), fix(2, 1, 2), fix(0, 0, 1), away(0), WIRES)
        self.assertEqual(found, [2, 1, 2, 2, 50, -100, 50, 100, 0,
                                 2, 3, 3, -50, -100, -50, 0, -50, 100, 0, 2, 7])

    def test_new_wires_come_behind(self):
        self.assertEqual(run(FIRST, SECOND, away(0), THIRD, WIRES)[3:], [[1], last(SECOND, THIRD, WIRES)])

    def test_there_is_room_again(self):
        found = run(*[SECOND] * 24, SECOND, away(5), SECOND, SECOND)
        self.assertEqual(found[24:], [[-4], [0], [23], [-4]])

    def test_no_such_wire(self):
        self.assertEqual(run(away(0)), [[-1]])
        for bad in (-1, 2, LOW, HIGH):
            found = run(FIRST, SECOND, away(bad), WIRES)
            self.assertEqual(found[2:], [[-1], last(FIRST, SECOND, WIRES)])

    def test_the_last_number_is_gone_too(self):
        self.assertEqual(run(FIRST, SECOND, away(1), away(1), away(0), away(0))[2:], [[0], [-1], [0], [-1]])


class Clear(unittest.TestCase):
    def test_all_wires_go(self):
        found = run(FIRST, SECOND, THIRD, COUNTS, CLEAR, WIRES, COUNTS, CONFLICTS, RING, corner(0, 0), FIRST)
        self.assertEqual(found[4:], [[0], [0], [0] * 6, [0], [0], [-1], [0]])

    def test_an_empty_board(self):
        self.assertEqual(run(CLEAR, CLEAR), [[0], [0]])

    def test_the_rules_stay(self):
        near = [wire(0, 1, (0, 0), (100, 0)), wire(1, 1, (0, 6), (100, 6))]
        self.assertEqual(last(rules(5, 1), FIRST, CLEAR, *near, CONFLICTS), [1, 0, 1])
        self.assertEqual(last(rules(4, 1), FIRST, CLEAR, *near, CONFLICTS), [0])

    def test_new_wires_are_new(self):
        found = run(FIRST, price(0, 0, 0), fix(0, 0, 1), COUNTS, CLEAR, FIRST, WIRES, COUNTS)
        self.assertEqual(found[5:], [[0], last(FIRST, WIRES), [1, 2, 1, 0, 1, 2]])

    def test_measures_do_not_stay(self):
        far = wire(1, 1, (500, -100), (500, 100))
        self.assertEqual(last(FIRST, SECOND, CONFLICTS, CLEAR, FIRST, far, CONFLICTS), [0])
        self.assertEqual(last(FIRST, far, CONFLICTS, CLEAR, FIRST, SECOND, CONFLICTS), [1, 1, 2])


if __name__ == "__main__":
    unittest.main()
