"""Promise 0: rules."""

import unittest

from tests.helper import CONFLICTS, HIGH, LOW, RADIUS, corner, last, rules, run, wire

NONE = [0]
ONE = [1, 0, 1]


def pair(distance):
    """Two bars of radius 1 that far from one another."""
    return [wire(0, 1, (0, 0), (100, 0)), wire(1, 1, (0, distance), (100, distance))]


class Rules(unittest.TestCase):
    def test_answers_zero(self):
        self.assertEqual(run(rules(3, 4)), [[0]])

    def test_both_are_1_at_first(self):
        self.assertEqual(last(*pair(3), CONFLICTS), NONE)
        self.assertEqual(last(*pair(2), CONFLICTS), ONE)
        bent = wire(0, 1, (-50, 0), (0, 0), (-50, 10))
        self.assertEqual(last(bent, wire(1, 1, (3, -50), (3, 50)), corner(0, 0)), [0, 1, 0])
        self.assertEqual(last(bent, wire(1, 1, (2, -50), (2, 50)), corner(0, 0)), [0, 1, 2])

    def test_the_clearance_counts_between_bars(self):
        self.assertEqual(last(rules(5, 1), *pair(7), CONFLICTS), NONE)
        self.assertEqual(last(rules(5, 1), *pair(6), CONFLICTS), ONE)

    def test_the_via_radius_does_not_count_between_bars(self):
        self.assertEqual(last(rules(1, 1000), *pair(3), CONFLICTS), NONE)

    def test_the_via_radius_and_the_clearance_count_at_corners(self):
        bent = wire(0, 1, (-50, 0), (0, 0), (-50, 10))
        for distance, reason in ((12, 0), (11, 2)):
            beside = wire(1, 1, (distance, -50), (distance, 50))
            self.assertEqual(last(rules(4, 7), bent, beside, corner(0, 0)), [0, 1, reason])

    def test_rules_hold_for_wires_that_are_there_and_for_new_ones(self):
        found = run(*pair(6), CONFLICTS, rules(5, 1), CONFLICTS, rules(4, 1), CONFLICTS)
        self.assertEqual([found[2], found[4], found[6]], [NONE, ONE, NONE])

    def test_bounds(self):
        for good in (1, 2, RADIUS - 1, RADIUS):
            self.assertEqual(run(rules(good, 1), rules(1, good), rules(good, good)), [[0]] * 3)
        for bad in (0, -1, LOW, RADIUS + 1, HIGH):
            self.assertEqual(run(rules(bad, 1), rules(1, bad), rules(bad, bad)), [[-2]] * 3)

    def test_nothing_changes_behind_a_refusal(self):
        bent = wire(0, 1, (-50, 0), (0, 0), (-50, 10))
        beside = wire(1, 1, (4, -50), (4, 50))
        before = run(bent, beside, CONFLICTS, corner(0, 0))[2:]
        self.assertEqual(before, [[0], [0, 1, 0]])
        for bad in (rules(50, 0), rules(0, 50), rules(50, RADIUS + 1), rules(RADIUS + 1, 50)):
            self.assertEqual(run(bent, beside, bad, CONFLICTS, corner(0, 0))[2:], [[-2]] + before)


if __name__ == "__main__":
    unittest.main()
