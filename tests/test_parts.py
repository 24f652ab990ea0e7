"""Promise 11: parts."""

import unittest

from tests.helper import PARTS, away, fix, last, price, rules, run, wire

LYING = wire(0, 1, (-100, 0), (100, 0))
STANDING = wire(1, 1, (0, -100), (0, 100))
SLANTED = wire(2, 1, (-50, -50), (50, 50))
STRAIGHT = wire(0, 1, (0, 0), (100, 0), (200, 0), (300, 0))


class Parts(unittest.TestCase):
    def test_the_ground_alone(self):
        self.assertEqual(last(PARTS), [1, 0, 0])

    def test_each_bar_is_a_part_without_links(self):
        self.assertEqual(last(STRAIGHT, PARTS), [4, 0, 0, 1, 0, 2, 0, 3, 0])

    def test_bars_in_conflict_lie_on_unlike_layers(self):
        self.assertEqual(last(LYING, STANDING, PARTS), [3, 0, 0, 0, 1, 2, 0])

    def test_bars_at_a_barred_corner_lie_on_one_layer(self):
        self.assertEqual(last(STRAIGHT, price(0, 1, 0), PARTS), [4, 0, 0, 1, 0, 1, 0, 3, 0])
        self.assertEqual(last(STRAIGHT, price(0, 0, 0), price(0, 1, 0), PARTS), [4, 0, 0, 0, 0, 0, 0, 3, 0])

    def test_fixed_bars_stand_to_the_ground(self):
        self.assertEqual(last(STRAIGHT, fix(0, 1, 1), PARTS), [4, 0, 0, 1, 0, 2, 0, 1, 0])
        self.assertEqual(last(STRAIGHT, fix(0, 1, 2), PARTS), [4, 0, 0, 1, 0, 2, 0, 1, 1])
        self.assertEqual(last(STRAIGHT, fix(0, 0, 2), fix(0, 2, 1), PARTS), [4, 0, 0, 1, 0, 0, 1, 0, 1])
        self.assertEqual(last(STRAIGHT, fix(0, 0, 2), fix(0, 2, 2), PARTS), [4, 0, 0, 1, 0, 0, 0, 0, 1])
        self.assertEqual(last(STRAIGHT, fix(0, 0, 1), fix(0, 1, 1), fix(0, 2, 2), PARTS), [4, 0, 0, 0, 0, 0, 1, 0, 0])

    def test_the_head_is_the_least_number_however_links_come(self):
        # Conflicts: 0 and 4, 1 and 3; then the corner between 3 and 4, whose price is 0.
        board = [wire(0, 1, (0, 0), (100, 0)), wire(1, 1, (0, 50), (100, 50)), wire(2, 1, (0, 500), (100, 500)),
                 wire(3, 1, (50, 80), (50, 25), (50, -20)), price(3, 0, 0)]
        self.assertEqual(last(*board, PARTS), [6, 0, 0, 0, 0, 2, 0, 0, 1, 0, 1, 5, 0])
        self.assertEqual(last(*board, fix(2, 0, 2), fix(3, 1, 2), PARTS), [6, 0, 0, 0, 0, 0, 1, 0, 1, 0, 1, 0, 0])
        self.assertEqual(last(*board, fix(2, 0, 2), PARTS), [6, 0, 0, 0, 0, 2, 0, 0, 1, 0, 1, 2, 1])

    def test_a_long_way_through_one_part(self):
        # Each bar crosses the next one, so that they lie on the two layers in turn.
        board = [wire(k, 1, (10 * k, 0), (10 * k + 16, 10)) if k % 2 == 0 else
                 wire(k, 1, (10 * k, 10), (10 * k + 16, 0)) for k in range(24)]
        told = [number for k in range(24) for number in (0, k % 2)]
        self.assertEqual(last(*board, PARTS), [25] + told + [24, 0])
        self.assertEqual(last(*board, fix(23, 0, 1), PARTS), [25] + told + [0, 1])
        self.assertEqual(last(*board, fix(22, 0, 1), PARTS), [25] + told + [0, 0])

    def test_no_row_is_right(self):
        self.assertEqual(last(LYING, STANDING, SLANTED, PARTS), [-8])
        self.assertEqual(last(LYING, STANDING, fix(0, 0, 1), fix(1, 0, 1), PARTS), [-8])
        self.assertEqual(last(STRAIGHT, price(0, 0, 0), fix(0, 0, 1), fix(0, 1, 2), PARTS), [-8])

    def test_what_was_asked_before_does_not_stay(self):
        found = run(LYING, STANDING, SLANTED, PARTS, away(1), PARTS, fix(1, 0, 1), PARTS, rules(100, 1), STRAIGHT,
                    PARTS, away(1), PARTS)
        self.assertEqual([found[3], found[5], found[7]], [[-8], [3, 0, 0, 0, 1, 2, 0], [3, 0, 0, 0, 1, 0, 1]])
        self.assertEqual(found[10], [6, 0, 0, 0, 1, 0, 0, 0, 0, 4, 0, 0, 1])
        self.assertEqual(found[12], [5, 0, 0, 1, 0, 2, 0, 3, 0, 4, 0])

    def test_a_full_board(self):
        board = [wire(k % 2, 1, *[(10 * m, 3 * k) for m in range(5)]) for k in range(24)]
        told = [number for bar in range(96) for number in (bar, 0)]
        self.assertEqual(last(*board, PARTS), [97] + told + [96, 0])
        crowded = [number for bar in range(96) for number in (0, bar // 4 % 2)]
        self.assertEqual(last(rules(2, 1), *board, PARTS), [97] + crowded + [96, 0])


if __name__ == "__main__":
    unittest.main()
