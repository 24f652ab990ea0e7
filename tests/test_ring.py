"""Promise 10: ring."""

import unittest

from tests.helper import COUNTS, RING, away, fix, last, price, rules, run, wire

LYING = wire(0, 1, (-100, 0), (100, 0))
STANDING = wire(1, 1, (0, -100), (0, 100))
SLANTED = wire(2, 1, (-50, -50), (50, 50))
# Bars 0 and 1 with a corner between them; bar 2 crosses bar 0, bar 3 crosses bar 1, and 2 crosses 3.
ARCH = [wire(0, 1, (0, 0), (100, 0), (200, 0)), wire(1, 1, (40, -20), (150, 200)), wire(2, 1, (160, -20), (50, 200))]


class Ring(unittest.TestCase):
    def test_none(self):
        self.assertEqual(last(RING), [0])
        self.assertEqual(last(LYING, RING), [0])
        self.assertEqual(last(LYING, STANDING, RING), [0])
        self.assertEqual(last(*ARCH, RING), [0])

    def test_a_conflict_closes_it(self):
        self.assertEqual(last(LYING, STANDING, SLANTED, RING), [3, 1, 0, 2])
        away_from_it = wire(9, 1, (500, 500), (600, 600), (700, 500))
        self.assertEqual(last(away_from_it, LYING, STANDING, SLANTED, RING), [3, 3, 2, 4])

    def test_one_net_of_three_is_shared(self):
        shared = wire(0, 1, (-50, -50), (50, 50))
        self.assertEqual(last(LYING, STANDING, shared, RING), [0])

    def test_a_corner_closes_it(self):
        self.assertEqual(last(*ARCH, price(0, 0, 0), RING), [4, 0, 2, 3, 1])
        self.assertEqual(last(*ARCH, price(0, 0, 1), RING), [0])

    def test_a_corner_that_is_barred_by_a_bar_closes_it(self):
        beside = wire(3, 1, (100, -3), (100, -50))
        self.assertEqual(last(*ARCH, beside, RING), [0])
        self.assertEqual(last(rules(1, 2), *ARCH, beside, RING), [4, 0, 2, 3, 1])

    def test_a_corner_that_is_barred_by_a_disc_closes_it(self):
        other = wire(3, 1, (70, -90), (100, -10), (130, -90))
        self.assertEqual(last(rules(1, 4), *ARCH, other, RING), [0])
        self.assertEqual(last(rules(1, 5), *ARCH, other, RING), [4, 0, 2, 3, 1])

    def test_a_fixed_bar_closes_it(self):
        for layer in (1, 2):
            both = [LYING, STANDING, fix(0, 0, layer), fix(1, 0, layer)]
            self.assertEqual(last(*both, RING), [3, 1, 0, 2])
            unlike = [LYING, STANDING, fix(0, 0, layer), fix(1, 0, 3 - layer)]
            self.assertEqual(last(*unlike, RING), [0])

    def test_fixed_bars_at_a_barred_corner(self):
        bent = [wire(0, 1, (0, 0), (100, 0), (200, 0)), fix(0, 0, 1), fix(0, 1, 2)]
        self.assertEqual(last(*bent, RING), [0])
        self.assertEqual(last(*bent, price(0, 0, 0), RING), [3, 1, 0, 2])
        self.assertEqual(last(*bent, price(0, 0, 0), fix(0, 1, 1), RING), [0])
        self.assertEqual(last(*bent, price(0, 0, 0), fix(0, 0, 2), RING), [0])

    def test_all_kinds_of_links_in_one_ring(self):
        board = [wire(0, 1, (0, 0), (100, 0), (200, 0)), price(0, 0, 0), wire(1, 1, (150, -50), (150, 50))]
        self.assertEqual(last(*board, fix(0, 0, 2), fix(1, 0, 2), RING), [4, 2, 1, 0, 3])
        self.assertEqual(last(*board, fix(0, 0, 2), fix(1, 0, 1), RING), [0])

    def test_the_first_broken_link_counts(self):
        other = [wire(5, 1, (900, 0), (1000, 0)), wire(6, 1, (950, -50), (950, 50)), wire(7, 1, (920, -30), (980, 30))]
        self.assertEqual(last(*other, LYING, STANDING, SLANTED, RING), [3, 1, 0, 2])
        found = last(LYING, STANDING, *other, fix(0, 0, 1), fix(1, 0, 1), RING)
        self.assertEqual(found, [3, 3, 2, 4])
        bent = wire(0, 1, (-900, 0), (-800, 0), (-700, 0))
        found = last(bent, price(0, 0, 0), fix(0, 0, 1), fix(0, 1, 2), LYING, STANDING, SLANTED, RING)
        self.assertEqual(found, [3, 3, 2, 4])

    def test_the_least_of_several_shortest_ways(self):
        # Bars 2 and 3 cross one another, and each crosses both of 0 and 1.
        board = [wire(0, 1, (-100, 20), (100, 20)), wire(1, 1, (-100, -20), (100, -20)),
                 wire(2, 1, (-60, -60), (60, 60)), wire(3, 1, (-60, 60), (60, -60))]
        self.assertEqual(last(*board, RING), [3, 2, 0, 3])
        self.assertEqual(last(*board[1:], RING), [3, 1, 0, 2])

    def test_the_shortest_way_though_another_is_less(self):
        # From bar 1 the way over bar 0 is longer than the one over bar 4.
        board = [wire(0, 1, (0, 0), (100, 0), (200, 0)), wire(1, 1, (50, -50), (50, 50), (50, 300)),
                 wire(2, 1, (150, -50), (150, 50)), price(0, 0, 0), price(1, 0, 0)]
        # Links: 0-2, 1-4, 0-1, 2-3, then the ground, 5.
        self.assertEqual(last(*board, fix(0, 1, 1), fix(2, 0, 1), RING), [3, 4, 1, 5])
        self.assertEqual(last(*board, fix(1, 1, 2), fix(2, 0, 1), RING), [6, 4, 1, 0, 2, 3, 5])
        self.assertEqual(last(*board, fix(0, 1, 1), fix(1, 1, 2), fix(2, 0, 1), RING), [3, 4, 1, 5])

    def test_links_behind_the_broken_one_are_not_used(self):
        # The links of bars 1 and 2 with the ground are both wrong; bar 1's comes first.
        board = [wire(0, 1, (-100, 0), (100, 0)), wire(1, 1, (0, -100), (0, 100)), wire(2, 1, (50, -100), (50, 100)),
                 fix(0, 0, 1), fix(1, 0, 1), fix(2, 0, 1)]
        self.assertEqual(last(*board, RING), [3, 1, 0, 3])

    def test_the_least_way_to_the_ground(self):
        # Bar 3 crosses bars 0, 1 and 2, which are all fixed on layer 1, as bar 3 is.
        board = [wire(k, 1, (-100, 20 * k), (100, 20 * k)) for k in range(3)] + [wire(3, 1, (0, -100), (0, 100))]
        fixed = [fix(k, 0, 1) for k in range(4)]
        self.assertEqual(last(*board, *fixed, RING), [3, 3, 0, 4])
        self.assertEqual(last(*board, *fixed[1:], RING), [3, 3, 1, 4])
        self.assertEqual(last(*board, *fixed, fix(0, 0, 0), fix(1, 0, 0), RING), [3, 3, 2, 4])

    def test_numbers_follow_the_wires(self):
        first = wire(8, 1, (500, 500), (600, 500), (600, 600))
        found = run(first, LYING, STANDING, SLANTED, RING, away(0), RING, away(1), RING, COUNTS)
        self.assertEqual([found[4], found[6], found[8]], [[3, 3, 2, 4], [3, 1, 0, 2], [0]])

    def test_a_long_ring(self):
        # A wire of 15 bars whose ends are fixed on unlike layers, with no via allowed between.
        long = wire(0, 1, *[(10 * k, 0) for k in range(16)])
        barred = [price(0, k, 0) for k in range(14)]
        self.assertEqual(last(long, *barred, fix(0, 0, 1), fix(0, 14, 2), RING), [16] + list(range(14, -1, -1)) + [15])


if __name__ == "__main__":
    unittest.main()
