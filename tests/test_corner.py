"""Promise 9: corner."""

import unittest

from tests.helper import BIG, HIGH, LOW, RADIUS, WIRES, away, corner, last, price, rules, run, wire

BENT = wire(0, 1, (-50, 0), (0, 0), (-50, 10))


def facing(x, net=1):
    """A wire whose corner looks at BENT's corner from that far."""
    return wire(net, 1, (x + 50, 0), (x, 0), (x + 50, 10))


def beside(x, net=1, radius=1):
    """A straight wire that passes BENT's corner that far off."""
    return wire(net, radius, (x, -50), (x, 50))


class Corner(unittest.TestCase):
    def test_the_bar_before_it_and_its_price(self):
        long = wire(0, 1, *[(10 * k, 0) for k in range(5)])
        board = [long, wire(0, 1, (0, 500), (9, 500)), long, price(2, 1, 77)]
        found = run(*board, corner(0, 0), corner(0, 2), corner(2, 0), corner(2, 1), corner(2, 2))[4:]
        self.assertEqual(found, [[0, 1, 0], [2, 1, 0], [5, 1, 0], [6, 77, 0], [7, 1, 0]])
        self.assertEqual(last(*board, away(1), corner(1, 1)), [5, 77, 0])

    def test_no_such_wire_or_corner(self):
        board = [BENT, beside(500)]
        for call, number in ((corner(2, 0), -1), (corner(-1, 0), -1), (corner(LOW, 0), -1), (corner(HIGH, 0), -1),
                             (corner(0, 1), -5), (corner(0, -1), -5), (corner(1, 0), -5), (corner(0, LOW), -5),
                             (corner(0, HIGH), -5), (corner(2, 1), -1), (corner(-1, -1), -1)):
            self.assertEqual(run(*board, call, WIRES)[2:], [[number], last(*board, WIRES)], call)
        self.assertEqual(run(corner(0, 0)), [[-1]])

    def test_reason_1_is_the_price(self):
        self.assertEqual(last(BENT, price(0, 0, 0), corner(0, 0)), [0, 0, 1])
        self.assertEqual(last(BENT, price(0, 0, 1), corner(0, 0)), [0, 1, 0])
        self.assertEqual(last(BENT, price(0, 0, 1000), corner(0, 0)), [0, 1000, 0])

    def test_reason_2_is_a_bar_of_another_net(self):
        for x, reason in ((3, 0), (2, 2), (0, 2), (-2, 2)):
            self.assertEqual(last(BENT, beside(x), corner(0, 0)), [0, 1, reason])
        for x, reason in ((12, 0), (11, 2)):
            self.assertEqual(last(rules(4, 5), BENT, beside(x, 1, 3), corner(0, 0)), [0, 1, reason])
            self.assertEqual(last(rules(4, 5), beside(x, 1, 3), BENT, corner(1, 0)), [1, 1, reason])

    def test_the_bars_of_its_own_net_do_not_bar_it(self):
        self.assertEqual(last(BENT, beside(0, 0), corner(0, 0)), [0, 1, 0])
        crossed = wire(0, 1, (-50, 0), (0, 0), (50, 50), (-5, -50), (0, 50))
        self.assertEqual(last(crossed, corner(0, 0)), [0, 1, 0])

    def test_a_bar_near_an_end_or_at_a_slant(self):
        for end, reason in (((3, 4), 0), ((3, 3), 2)):
            self.assertEqual(last(rules(3, 1), BENT, wire(1, 1, end, (50, 60)), corner(0, 0)), [0, 1, reason])
        # Nearest just inside the bar's end, at a square of 25 less one thirteenth; then at the end itself, at 25.
        for end, reason in (((3, -2), 2), ((4, -3), 0)):
            bent = wire(0, 1, (3, 500), (3, 4), (9, 500))
            self.assertEqual(last(rules(2, 2), bent, wire(1, 1, (0, 0), end), corner(0, 0)), [0, 1, reason])
            self.assertEqual(last(rules(2, 2), bent, wire(1, 1, end, (0, 0)), corner(0, 0)), [0, 1, reason])
        # The square of the gap is 2998 * 2998 over 998050, a little above 9, or 2996 * 2996, a little below.
        for point, reason in (((428, 6), 0), ((571, 7), 2)):
            bent = wire(0, 1, (point[0], 500), point, (point[0] + 9, 500))
            self.assertEqual(last(bent, wire(1, 1, (0, 0), (999, 7)), corner(0, 0)), [0, 1, reason])

    def test_reason_3_is_a_disc_of_another_net(self):
        for x, reason in ((11, 0), (10, 3), (7, 3), (6, 2)):
            found = run(rules(1, 5), BENT, facing(x), corner(0, 0), corner(1, 0))
            self.assertEqual(found[3:], [[0, 1, reason], [2, 1, reason]])
        for x, reason in ((14, 0), (13, 3)):
            self.assertEqual(last(rules(4, 5), BENT, facing(x), corner(0, 0)), [0, 1, reason])

    def test_the_discs_of_its_own_net_do_not_bar_it(self):
        self.assertEqual(last(rules(1, 5), BENT, facing(10, 0), corner(0, 0)), [0, 1, 0])

    def test_a_disc_counts_whatever_its_price(self):
        for amount in (0, 1, 1000):
            board = [rules(1, 5), BENT, facing(10), price(1, 0, amount)]
            self.assertEqual(last(*board, corner(0, 0)), [0, 1, 3])

    def test_a_disc_counts_if_it_is_barred_itself(self):
        found = run(rules(1, 5), BENT, facing(10), wire(2, 1, (16, -50), (16, 50)), corner(0, 0), corner(1, 0))
        self.assertEqual(found[4:], [[0, 1, 3], [2, 1, 2]])

    def test_only_corners_have_discs(self):
        ends = wire(1, 1, (8, 0), (60, 0), (60, 50))
        self.assertEqual(last(rules(1, 5), BENT, ends, corner(0, 0)), [0, 1, 0])
        self.assertEqual(last(rules(1, 5), ends, BENT, corner(1, 0)), [2, 1, 0])
        back = wire(1, 1, (60, 50), (60, 0), (8, 0))
        self.assertEqual(last(rules(1, 5), BENT, back, corner(0, 0)), [0, 1, 0])

    def test_the_order_of_reasons(self):
        free = [rules(1, 5), BENT]
        self.assertEqual(last(*free, facing(6), price(0, 0, 0), corner(0, 0)), [0, 0, 1])
        self.assertEqual(last(*free, beside(6), price(0, 0, 0), corner(0, 0)), [0, 0, 1])
        self.assertEqual(last(*free, facing(10), price(0, 0, 0), corner(0, 0)), [0, 0, 1])
        self.assertEqual(last(*free, facing(10), beside(6, 2), corner(0, 0)), [0, 1, 2])
        self.assertEqual(last(*free, beside(6, 2), facing(10), corner(0, 0)), [0, 1, 2])
        self.assertEqual(last(rules(1, 5), facing(10), BENT, beside(6, 2), corner(1, 0)), [2, 1, 2])
        self.assertEqual(last(rules(1, 5), beside(6, 2), BENT, facing(10), corner(1, 0)), [1, 1, 2])
        self.assertEqual(last(rules(1, 5), beside(500, 2), facing(10), BENT, facing(500, 3), corner(2, 0)), [3, 1, 3])

    def test_what_was_asked_before_does_not_stay(self):
        found = run(BENT, corner(0, 0), facing(10), corner(0, 0), rules(1, 5), corner(0, 0), price(0, 0, 0),
                    corner(0, 0), price(0, 0, 9), away(1), corner(0, 0))
        self.assertEqual([found[1], found[3], found[5], found[7], found[10]],
                         [[0, 1, 0], [0, 1, 0], [0, 1, 3], [0, 0, 1], [0, 9, 0]])

    def test_the_greatest_numbers(self):
        bent = wire(0, RADIUS, (-BIG, 0), (0, 0), (-BIG, BIG))
        for x, reason in ((180000000, 0), (179999999, 2)):
            other = wire(1, RADIUS, (BIG, BIG), (x, 240000000), (x, BIG))
            self.assertEqual(last(rules(RADIUS, RADIUS), bent, other, corner(0, 0)), [0, 1, reason])
            thin = wire(1, 1, (BIG, BIG), (x, 240000000), (x, BIG))
            self.assertEqual(last(rules(RADIUS, RADIUS), bent, thin, corner(0, 0)), [0, 1, 3 if reason else 0])


if __name__ == "__main__":
    unittest.main()
