"""Promise 1: wire."""

import unittest

from tests.helper import BIG, COUNTS, HIGH, LOW, RADIUS, WIRES, fix, last, price, row_wire, run, wire


def zigzag(net, count, y=0):
    """A wire of that many points."""
    return wire(net, 1, *[(10 * k, y + k % 2) for k in range(count)])


SHORT = zigzag(0, 2)


class Wire(unittest.TestCase):
    def test_wires_are_numbered_in_order(self):
        self.assertEqual(run(SHORT, SHORT, SHORT), [[0], [1], [2]])

    def test_a_new_wire_has_price_1_and_no_fixed_bar(self):
        made = wire(7, 8, (1, 2), (-3, 4), (5, -6), (7, 8))
        told = [7, 8, 4, 1, 2, -3, 4, 5, -6, 7, 8, 0, 0, 0, 1, 1]
        self.assertEqual(last(made, WIRES), [1] + told)
        found = last(made, fix(0, 1, 2), price(0, 1, 9), made, WIRES)
        self.assertEqual(found, [2] + told[:11] + [0, 2, 0, 1, 9] + told)

    def test_bounds_of_the_net(self):
        for net in (0, 1, BIG - 1, BIG):
            self.assertEqual(run(wire(net, 1, (0, 0), (1, 0))), [[0]])
        for net in (-1, LOW, BIG + 1, HIGH):
            self.assertEqual(run(wire(net, 1, (0, 0), (1, 0))), [[-2]])

    def test_bounds_of_the_radius(self):
        for radius in (1, 2, RADIUS - 1, RADIUS):
            self.assertEqual(run(wire(0, radius, (0, 0), (1, 0))), [[0]])
        for radius in (0, -1, LOW, RADIUS + 1, HIGH):
            self.assertEqual(run(wire(0, radius, (0, 0), (1, 0))), [[-2]])

    def test_how_many_points(self):
        for count in range(20):
            self.assertEqual(run(zigzag(0, count)), [[0] if 2 <= count <= 16 else [-3]], count)
        self.assertEqual(last(zigzag(0, 16), COUNTS), [1, 15, 14, 0, 14, 15])

    def test_odd_rows(self):
        numbers = [number for k in range(16) for number in (10 * k, k % 2)]
        for count in range(1, 32, 2):
            self.assertEqual(run(row_wire(0, 1, numbers[:count])), [[-3]])
        self.assertEqual(run(row_wire(0, 1, numbers + [5])), [[-3]])

    def test_long_rows(self):
        for count in (9999, 10000):
            self.assertEqual(run(row_wire(0, 1, list(range(count))), WIRES), [[-3], [0]])

    def test_bounds_of_points(self):
        for far in (BIG, -BIG):
            self.assertEqual(run(wire(0, 1, (far, 0), (0, 0)), wire(0, 1, (0, 0), (0, far))), [[0], [1]])
        for far in (BIG + 1, -BIG - 1, LOW, HIGH):
            for row in ([far, 0, 0, 0], [0, far, 0, 0], [0, 0, far, 0], [0, 0, 0, far], [0, 0, 1, 1, 2, far]):
                self.assertEqual(run(row_wire(0, 1, row)), [[-3]])

    def test_two_points_that_follow_one_another_are_unlike(self):
        self.assertEqual(run(wire(0, 1, (3, 4), (3, 4))), [[-3]])
        self.assertEqual(run(wire(0, 1, (3, 4), (3, 5), (3, 5))), [[-3]])
        self.assertEqual(run(wire(0, 1, (3, 4), (3, 4), (3, 5))), [[-3]])
        self.assertEqual(run(wire(0, 1, (3, 4), (4, 4)), wire(0, 1, (3, 4), (3, 5))), [[0], [1]])

    def test_other_points_may_be_alike(self):
        self.assertEqual(run(wire(0, 1, (0, 0), (5, 0), (0, 0), (5, 0)), WIRES)[0], [0])
        self.assertEqual(run(wire(0, 1, (0, 0), (5, 0), (5, 5), (0, 0))), [[0]])

    def test_24_wires(self):
        found = run(*[SHORT] * 26, COUNTS)
        self.assertEqual(found[:26], [[k] for k in range(24)] + [[-4], [-4]])
        self.assertEqual(found[26][:2], [24, 24])

    def test_96_bars(self):
        six = [zigzag(0, 16)] * 6
        self.assertEqual(run(*six, zigzag(0, 7), SHORT, COUNTS)[5:], [[5], [6], [-4], [7, 96, 89, 0, 89, 96]])
        self.assertEqual(run(*six, zigzag(0, 8), zigzag(0, 7), SHORT)[6:], [[-4], [6], [-4]])
        self.assertEqual(run(*six, zigzag(0, 6), zigzag(0, 3), SHORT, SHORT)[6:], [[6], [-4], [7], [-4]])

    def test_24_wires_and_96_bars(self):
        found = run(*[zigzag(0, 5)] * 24, SHORT, COUNTS)
        self.assertEqual(found[23:25], [[23], [-4]])
        self.assertEqual(found[25][:3], [24, 96, 72])

    def test_the_order_of_refusals(self):
        full = [SHORT] * 24
        bad_row = [0, 0, 0]
        self.assertEqual(last(*full, row_wire(-1, 1, bad_row)), [-2])
        self.assertEqual(last(*full, row_wire(0, 0, bad_row)), [-2])
        self.assertEqual(last(*full, row_wire(0, 0, [0, 0, 1, 0])), [-2])
        self.assertEqual(last(*full, row_wire(0, 1, bad_row)), [-3])
        self.assertEqual(last(*full, wire(0, 1, (0, 0), (0, 0))), [-3])
        self.assertEqual(last(*full, zigzag(0, 17)), [-3])
        self.assertEqual(last(row_wire(-1, 1, bad_row)), [-2])

    def test_nothing_changes_behind_a_refusal(self):
        before = last(SHORT, WIRES)
        for bad in (wire(-1, 1, (0, 0), (1, 0)), wire(0, 0, (0, 0), (1, 0)), wire(0, 1, (0, 0), (0, 0)),
                    row_wire(0, 1, [1, 2, 3])):
            self.assertEqual(run(SHORT, bad, WIRES, SHORT)[2:], [before, [1]])
        full = [SHORT] * 24
        self.assertEqual(last(*full, WIRES), last(*full, zigzag(3, 4), WIRES))


if __name__ == "__main__":
    unittest.main()
