"""The interface: how calls are read and answers written, and the limits of a line."""

import random
import time
import unittest

from tests.helper import (BIG, CLEAR, CONFLICTS, COUNTS, HIGH, LOW, RADIUS, RING, WIRES, away, corner, fix, last, price,
                          row_wire, rules, run, split, wire)
from viaboard.board import answers

LYING = wire(0, 1, (-100, 0), (100, 0))
STANDING = wire(1, 1, (0, -100), (0, 100))


class Untouched(list):
    """A list that can't be changed."""

    def refuse(self, *given):
        raise AssertionError("what is handed in was changed")

    append = extend = insert = pop = remove = reverse = sort = clear = refuse
    __setitem__ = __delitem__ = __iadd__ = __imul__ = refuse


def join(*calls):
    return [number for call in calls for number in call]


def random_points(rng, count, span):
    return [(rng.randint(-span, span), rng.randint(-span, span)) for k in range(count)]


class Line(unittest.TestCase):
    def test_answers_are_one_flat_list(self):
        calls = join(rules(2, 3), LYING, STANDING, CONFLICTS, COUNTS, [2, 9], RING, WIRES)
        self.assertEqual(answers(calls), [1, 0, 1, 0, 1, 1, 3, 1, 0, 1, 6, 2, 2, 0, 1, 0, 1, 1, -1, 1, 0,
                                          17, 2, 0, 1, 2, -100, 0, 100, 0, 0, 1, 1, 2, 0, -100, 0, 100, 0])

    def test_one_call(self):
        for call, answer in ((rules(1, 1), [1, 0]), (rules(0, 1), [1, -2]), (LYING, [1, 0]), (away(0), [1, -1]),
                             (fix(0, 0, 0), [1, -1]), (price(0, 0, 0), [1, -1]), (CLEAR, [1, 0]), (WIRES, [1, 0]),
                             (COUNTS, [6, 0, 0, 0, 0, 0, 0]), (CONFLICTS, [1, 0]), (corner(0, 0), [1, -1]),
                             (RING, [1, 0])):
            self.assertEqual(answers(call), answer)

    def test_answers_are_plain_whole_numbers(self):
        calls = join(LYING, STANDING, fix(0, 0, 2), fix(1, 0, 2), wire(0, 1, (5, 5), (6, 6), (7, 5)), price(2, 0, 0),
                     WIRES, COUNTS, CONFLICTS, corner(2, 0), RING)
        found = answers(calls)
        self.assertIs(type(found), list)
        self.assertEqual({type(number) for number in found}, {int})

    def test_an_empty_row_is_read(self):
        self.assertEqual(run(row_wire(0, 1, []), CLEAR, row_wire(0, 1, [7]), WIRES), [[-3], [0], [-3], [0]])

    def test_numbers_in_a_row_are_not_calls(self):
        self.assertEqual(run(row_wire(5, 6, [7, 8, 9, 10]), WIRES), [[0], [1, 5, 6, 2, 7, 8, 9, 10, 0]])

    def test_the_greatest_and_least_arguments(self):
        for n in (LOW, HIGH):
            found = run(rules(n, n), row_wire(n, n, [n]), row_wire(0, 1, [n, n, n, n]), away(n), fix(n, n, n),
                        price(n, n, n), corner(n, n))
            self.assertEqual(found, [[-2], [-2], [-3], [-1], [-1], [-1], [-1]])

    def test_what_is_handed_in_stays_as_it_was(self):
        calls = join(rules(3, 4), LYING, STANDING, fix(0, 0, 1), away(0), wire(2, 2, (1, 1), (5, 5), (9, 1)),
                     price(1, 0, 0), WIRES, COUNTS, CONFLICTS, corner(1, 0), RING, CLEAR, [2, 0])
        before = list(calls)
        found = answers(Untouched(calls))
        self.assertEqual(answers(calls), found)
        self.assertEqual(calls, before)

    def test_a_second_call_starts_anew(self):
        answers(join(rules(50, 50), LYING, STANDING, fix(0, 0, 1), COUNTS))
        self.assertEqual(run(WIRES, COUNTS, LYING), [[0], [0] * 6, [0]])
        near = [wire(0, 1, (0, 0), (100, 0)), wire(1, 1, (0, 3), (100, 3))]
        self.assertEqual(last(*near, CONFLICTS), [0])

    def test_what_is_given_back_is_not_kept(self):
        found = answers(join(LYING, WIRES))
        again = list(found)
        found.clear()
        self.assertEqual(answers(join(LYING, WIRES)), again)

    def test_two_lines_after_one_another_stand_alone(self):
        calls = join(LYING, STANDING, fix(0, 0, 1), fix(1, 0, 1), RING, COUNTS)
        self.assertEqual(answers(calls), answers(calls))


class Limits(unittest.TestCase):
    def test_400_calls(self):
        found = run(*[LYING, STANDING, away(0), away(0)] * 99, LYING, STANDING, COUNTS, RING)
        self.assertEqual(found[-4:], [[0], [1], [2, 2, 0, 1, 0, 1], [0]])

    def test_30000_numbers(self):
        rows = [row_wire(0, 1, [5] * 10000), row_wire(0, 1, [5] * 10000), row_wire(0, 1, [5] * 9986)]
        calls = join(*rows, WIRES, COUNTS)
        self.assertEqual(len(calls), 30000)
        self.assertEqual(split(answers(calls)), [[-3], [-3], [-3], [0], [0] * 6])

    def test_full_boards_that_change_before_each_question(self):
        rng = random.Random(5)
        started = time.monotonic()
        for span, radius in ((BIG, 1), (BIG, RADIUS), (1000, 1), (1000, 300)):
            for shape in ([16] * 6 + [7], [5] * 24, [16] * 5 + [2] * 19):
                board = [wire(k, radius, *random_points(rng, count, span)) for k, count in enumerate(shape)]
                spare = wire(99, radius, *random_points(rng, shape[0], span))
                changes = [rules(1, 2), COUNTS, rules(2, 1), RING, fix(0, 0, 1), RING, fix(0, 0, 0), COUNTS,
                           price(0, 0, 0), corner(1, 0), away(0), spare, RING]
                calls = (board + changes * 40)[:400]
                found = run(*calls)
                self.assertEqual(found[len(board) - 1], [len(board) - 1])
                self.assertEqual(len(found), 400)
        # A fault bound alone: all of this takes a few seconds at most.
        self.assertLess(time.monotonic() - started, 120)

    def test_25_calls_of_wires_and_of_conflicts_on_a_full_board(self):
        board = [wire(k, RADIUS, *[(m, k) for m in range(5)]) for k in range(24)]
        found = run(*board, *[CONFLICTS, WIRES] * 25)
        self.assertEqual(found[24], found[72])
        self.assertEqual(found[24][0], 96 * 92 // 2)
        self.assertEqual(len(found[25]), 1 + 24 * (3 + 10 + 4 + 3))
        self.assertEqual(found[25], found[73])


if __name__ == "__main__":
    unittest.main()
