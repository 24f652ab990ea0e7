"""Promise 12: best."""

import random
import unittest

from tests.helper import BEST, COUNTS, GREEDY, Model, away, cost, fix, last, price, rules, run, straight, wire

LYING = wire(0, 1, (-100, 0), (100, 0))
STANDING = wire(1, 1, (0, -100), (0, 100))


class Best(unittest.TestCase):
    def test_no_bars(self):
        self.assertEqual(last(BEST), [0, 0])

    def test_layer_1_comes_first(self):
        self.assertEqual(last(straight(3), BEST), [0, 3, 1, 1, 1])
        self.assertEqual(last(LYING, STANDING, BEST), [0, 2, 1, 2])
        self.assertEqual(last(LYING, STANDING, fix(0, 0, 2), BEST), [0, 2, 2, 1])

    def test_of_rows_that_cost_as_little_the_least(self):
        # One via is needed somewhere between the ends, and each place costs the same.
        self.assertEqual(last(straight(5), fix(0, 0, 1), fix(0, 4, 2), BEST), [1, 5, 1, 1, 1, 1, 2])
        self.assertEqual(last(straight(5), fix(0, 0, 2), fix(0, 4, 1), BEST), [1, 5, 2, 1, 1, 1, 1])
        self.assertEqual(last(straight(5), fix(0, 4, 1), BEST), [0, 5, 1, 1, 1, 1, 1])
        self.assertEqual(last(straight(5), fix(0, 2, 2), BEST), [0, 5, 2, 2, 2, 2, 2])
        self.assertEqual(last(straight(3), straight(2, 0, 500), fix(1, 0, 2), BEST), [0, 5, 1, 1, 1, 2, 2])

    def test_the_cheapest_via(self):
        ends = [straight(5), fix(0, 0, 1), fix(0, 4, 2)]
        for k in range(4):
            row = [1] * (k + 1) + [2] * (4 - k)
            prices = [price(0, m, 6 if m == k else 7) for m in range(4)]
            self.assertEqual(last(*ends, *prices, BEST), [6, 5] + row)
        self.assertEqual(last(*ends, *[price(0, m, 1000) for m in range(4)], BEST), [1000, 5, 1, 1, 1, 1, 2])

    def test_no_via_at_barred_corners(self):
        ends = [straight(4), fix(0, 0, 1), fix(0, 3, 2), price(0, 1, 500), price(0, 2, 0)]
        self.assertEqual(last(*ends, price(0, 0, 600), BEST), [500, 4, 1, 1, 2, 2])
        self.assertEqual(last(*ends, price(0, 0, 400), BEST), [400, 4, 1, 2, 2, 2])
        near = wire(1, 1, (200, 3), (200, 50))
        self.assertEqual(last(*ends, price(0, 0, 600), near, BEST), [500, 5, 1, 1, 2, 2, 1])
        self.assertEqual(last(*ends, price(0, 0, 600), near, rules(2, 1), BEST), [600, 5, 1, 2, 2, 2, 1])

    def test_several_vias(self):
        board = [straight(5), price(0, 0, 3), price(0, 3, 2), fix(0, 0, 1), fix(0, 2, 2), fix(0, 4, 1)]
        self.assertEqual(last(*board, BEST), [2, 5, 1, 1, 2, 1, 1])
        self.assertEqual(last(*board, price(0, 1, 9), price(0, 2, 9), BEST), [5, 5, 1, 2, 2, 2, 1])

    def test_a_via_within_one_part_is_counted(self):
        # Bars 0 and 1 are unlike, as both stand to bar 2 and bar 3, which cross one another.
        board = [wire(0, 1, (0, 0), (100, 0), (200, 0)), wire(1, 1, (40, -20), (150, 200)),
                 wire(2, 1, (160, -20), (50, 200)), price(0, 0, 9)]
        self.assertEqual(last(*board, BEST), [9, 4, 1, 2, 2, 1])

    def test_it_may_be_cheaper_than_greedy(self):
        board = [straight(3), price(0, 0, 4), price(0, 1, 6), fix(0, 2, 2)]
        self.assertEqual(run(*board, BEST, GREEDY)[-2:], [[0, 3, 2, 2, 2], [4, 3, 1, 2, 2]])

    def test_12_and_13_free_parts(self):
        self.assertEqual(last(straight(12), BEST), [0, 12] + [1] * 12)
        self.assertEqual(last(straight(13), BEST), [-9])
        self.assertEqual(last(straight(13), fix(0, 6, 2), BEST), [0, 13] + [2] * 13)
        self.assertEqual(last(straight(14), fix(0, 6, 2), BEST), [-9])
        self.assertEqual(last(straight(14), fix(0, 0, 1), fix(0, 13, 2), BEST), [1, 14] + [1] * 13 + [2])
        self.assertEqual(last(straight(13), price(0, 0, 0), BEST), [0, 13] + [1] * 13)
        self.assertEqual(last(straight(14), price(0, 0, 0), BEST), [-9])
        self.assertEqual(last(straight(15), straight(15, 0, 500), BEST), [-9])

    def test_13_free_parts_and_12_again(self):
        found = run(straight(13), BEST, fix(0, 0, 1), BEST, fix(0, 0, 0), BEST, price(0, 3, 0), BEST)
        self.assertEqual([found[1][0], found[3][0], found[5][0], found[7][0]], [-9, 0, -9, 0])

    def test_a_full_board_with_12_free_parts(self):
        board = [straight(4, k % 2, 1000 * k) for k in range(24)]
        barred = [price(k, m, 0) for k in range(24) for m in range(3)]
        fixed = [fix(k, 0, 1 + k % 2) for k in range(12)]
        row = [1, 1, 1, 1, 2, 2, 2, 2] * 6 + [1] * 48
        self.assertEqual(run(*board, *barred, *fixed, COUNTS, BEST)[-2:], [[24, 96, 72, 0, 0, 12], [0, 96] + row])
        self.assertEqual(last(*board, *barred, *fixed[1:], BEST), [-9])

    def test_12_parts_that_hang_together(self):
        # Two wires of another net cross the long one, so that its bars stand to theirs; the fixed bars cross nothing.
        crossing = [straight(12), wire(1, 1, (150, -50), (150, 50), (350, 50), (350, -50), (750, -50), (750, 50)),
                    wire(1, 1, (250, 80), (250, -80), (1050, -80), (1050, 80))]
        rng = random.Random(11)
        dear = 0
        for k in range(6):
            board = crossing + [fix(number, bar, rng.randint(1, 2)) for number, bar in ((0, 0), (1, 1), (2, 1))]
            for number, corners in enumerate((11, 4, 2)):
                board += [price(number, m, rng.randint(1, 9)) for m in range(corners)]
            model = Model()
            for call in board:
                model.answer(call)
            found = run(*board, COUNTS, BEST)
            self.assertEqual(found[-2][5], 12)
            self.assertEqual(found[-1], model.do_best())
            self.assertEqual(last(*board, cost(found[-1][2:]))[1], found[-1][0])
            dear += found[-1][0] > 0
        self.assertGreater(dear, 2)

    def test_no_row_is_right(self):
        both = [LYING, STANDING, fix(0, 0, 1), fix(1, 0, 1)]
        self.assertEqual(last(*both, BEST), [-8])
        self.assertEqual(last(*both, straight(14, 7, 900), BEST), [-8])
        self.assertEqual(last(*both, fix(0, 0, 0), straight(14, 7, 900), BEST), [-9])

    def test_what_was_asked_before_does_not_stay(self):
        found = run(LYING, STANDING, BEST, fix(0, 0, 2), BEST, away(0), BEST, straight(2), fix(1, 0, 2), BEST,
                    price(1, 0, 0), fix(1, 1, 1), BEST)
        self.assertEqual([found[2], found[4], found[6]], [[0, 2, 1, 2], [0, 2, 2, 1], [0, 1, 1]])
        self.assertEqual([found[9], found[12]], [[0, 3, 1, 2, 2], [-8]])


if __name__ == "__main__":
    unittest.main()
