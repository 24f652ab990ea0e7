"""The interface: how calls are read and answers written, and the limits of a line."""

import random
import time
import unittest

from tests.helper import (BEST, BIG, CLEAR, CONFLICTS, COUNTS, GREEDY, HIGH, LOW, PARTS, RADIUS, RING, WIRES, Model,
                          away, check, corner, cost, descend, fix, flip, last, layer, less, price, row_wire, rules,
                          run, split, vias, wire)
from viaboard.board import answers

LYING = wire(0, 1, (-100, 0), (100, 0))
STANDING = wire(1, 1, (0, -100), (0, 100))


class Untouched(list):
    """A list that can't be changed."""

    def refuse(self, *given):
        raise AssertionError("what is handed in was changed")

    append = extend = insert = pop = remove = reverse = sort = clear = refuse
    __setitem__ = __delitem__ = __iadd__ = __imul__ = refuse


def join(*calls):
    return [number for call in calls for number in call]


# Every call, on a board with wires of three nets: a bar is fixed, and a corner is barred.
BENT = wire(2, 2, (50, -90), (50, 90), (90, 90))
ALL_CALLS = [rules(3, 4), LYING, STANDING, BENT, fix(0, 0, 1), price(2, 0, 0), WIRES, COUNTS, CONFLICTS, corner(2, 0),
             RING, PARTS, BEST, GREEDY, check([1, 1, 2, 1]), cost([1, 2, 1, 2]), vias([1, 2, 1, 2]),
             layer(2, [1, 2, 2, 1]), less(0), flip(1, [1, 2, 2, 2]), descend([1, 2, 2, 2]), away(0), BEST,
             descend([1, 2, 2]), flip(0, [1, 1, 2]), CLEAR, PARTS, check([]), [2, 0]]


def random_points(rng, count, span):
    return [(rng.randint(-span, span), rng.randint(-span, span)) for k in range(count)]


class Line(unittest.TestCase):
    def test_answers_are_one_flat_list(self):
        calls = join(rules(2, 3), LYING, STANDING, CONFLICTS, COUNTS, [2, 9], RING, WIRES)
        self.assertEqual(answers(calls), [1, 0, 1, 0, 1, 1, 3, 1, 0, 1, 6, 2, 2, 0, 1, 0, 1, 1, -1, 1, 0,
                                          17, 2, 0, 1, 2, -100, 0, 100, 0, 0, 1, 1, 2, 0, -100, 0, 100, 0])

    def test_one_call(self):
        for call, answer in ((rules(1, 1), [1, 0]), (rules(0, 1), [1, -2]), (LYING, [1, 0]), (away(0), [1, -1]),
                             (fix(0, 0, 0), [1, -1]), (price(0, 0, 0), [1, -1]), (CLEAR, [1, 0]), (WIRES, [1, 0]),
                             (COUNTS, [6, 0, 0, 0, 0, 0, 0]), (CONFLICTS, [1, 0]), (corner(0, 0), [1, -1]),
                             (RING, [1, 0]), (PARTS, [3, 1, 0, 0]), (BEST, [2, 0, 0]), (GREEDY, [2, 0, 0]),
                             (check([]), [1, 0]), (check([1]), [1, -3]), (cost([]), [2, 0, 0]), (vias([]), [1, 0]),
                             (layer(1, []), [1, 0]), (layer(0, []), [1, -2]), (less(0), [1, -1]),
                             (flip(0, []), [1, -6]), (descend([]), [2, 0, 0])):
            self.assertEqual(answers(call), answer)
        self.assertEqual(answers(join(LYING, BEST, descend([2]), flip(0, [2]), less(0), vias([1]))),
                         [1, 0, 3, 0, 1, 1, 3, 0, 1, 2, 2, 1, 1, 1, 0, 1, 0])

    def test_answers_are_plain_whole_numbers(self):
        broken = [LYING, STANDING, fix(0, 0, 2), fix(1, 0, 2), wire(0, 1, (5, 5), (6, 6), (7, 5)), price(2, 0, 0),
                  WIRES, COUNTS, CONFLICTS, corner(2, 0), RING]
        for calls in (broken, ALL_CALLS):
            found = answers(join(*calls))
            self.assertIs(type(found), list)
            self.assertEqual({type(number) for number in found}, {int})

    def test_every_call(self):
        found = run(*ALL_CALLS)
        model = Model()
        self.assertEqual(found, [model.answer(call) for call in ALL_CALLS])
        # Bars 0 and 1 cross, as bars 0 and 2 do; bar 2 and 3 are alike, and bar 0 is fixed on layer 1.
        self.assertEqual(found[11:22], [[5, 0, 0, 0, 1, 0, 1, 0, 1, 0, 0], [0, 4, 1, 2, 2, 2], [0, 4, 1, 2, 2, 2],
                                        [2, 1, 0, 1, 2, 2, 3], [0, 0], [0],
                                        [2, 1, 0, -100, 0, 100, 2, 50, -90, 50, 90], [0], [-7], [0, 4, 1, 2, 2, 2],
                                        [0]])
        self.assertEqual(found[22:], [[0, 3, 1, 1, 1], [0, 3, 1, 2, 2], [3, 2, 1, 2], [0], [1, 0, 0], [0], [-1]])

    def test_an_empty_row_is_read(self):
        self.assertEqual(run(row_wire(0, 1, []), CLEAR, row_wire(0, 1, [7]), WIRES), [[-3], [0], [-3], [0]])

    def test_numbers_in_a_row_are_not_calls(self):
        self.assertEqual(run(row_wire(5, 6, [7, 8, 9, 10]), WIRES), [[0], [1, 5, 6, 2, 7, 8, 9, 10, 0]])

    def test_the_greatest_and_least_arguments(self):
        for n in (LOW, HIGH):
            found = run(rules(n, n), row_wire(n, n, [n]), row_wire(0, 1, [n, n, n, n]), away(n), fix(n, n, n),
                        price(n, n, n), corner(n, n), check([n]), cost([n]), vias([n]), layer(n, [n]), layer(1, [n]),
                        less(n), flip(n, [n]), descend([n]))
            self.assertEqual(found, [[-2], [-2], [-3], [-1], [-1], [-1], [-1], [-3], [-3], [-3], [-2], [-3], [-1], [-6],
                                     [-3]])
            found = run(LYING, check([n]), cost([n]), vias([n]), layer(n, [1]), layer(2, [n]), less(n), flip(n, [1]),
                        flip(0, [n]), descend([n]), WIRES)
            self.assertEqual(found[1:], [[-3], [-3], [-3], [-2], [-3], [-1], [-6], [-3], [-3], last(LYING, WIRES)])

    def test_what_is_handed_in_stays_as_it_was(self):
        board = [wire(0, 1, (0, 0), (100, 0), (200, 0)), wire(0, 1, (300, 0), (400, 0))]
        free = board + [flip(0, [1, 2, 1]), descend([1, 2, 1]), check([1, 2, 1]), cost([1, 2, 1]), vias([1, 2, 1]),
                        layer(1, [1, 2, 1]), less(0), BEST, GREEDY, PARTS]
        for told in (ALL_CALLS, free):
            calls = join(*told)
            before = list(calls)
            found = answers(Untouched(calls))
            self.assertEqual(answers(calls), found)
            self.assertEqual(calls, before)

    def test_a_second_call_starts_anew(self):
        answers(join(rules(50, 50), LYING, STANDING, fix(0, 0, 1), COUNTS))
        self.assertEqual(run(WIRES, COUNTS, LYING), [[0], [0] * 6, [0]])
        near = [wire(0, 1, (0, 0), (100, 0)), wire(1, 1, (0, 3), (100, 3))]
        self.assertEqual(last(*near, CONFLICTS), [0])

    def test_what_is_given_back_is_not_kept(self):
        found = answers(join(LYING, WIRES))
        again = list(found)
        found.clear()
        self.assertEqual(answers(join(LYING, WIRES)), again)

    def test_two_lines_after_one_another_stand_alone(self):
        for told in ([LYING, STANDING, fix(0, 0, 1), fix(1, 0, 1), RING, COUNTS], ALL_CALLS, [LYING, BEST, less(0)]):
            calls = join(*told)
            self.assertEqual(answers(calls), answers(calls))
        first = answers(join(*ALL_CALLS))
        answers(join(rules(9, 9), LYING, STANDING, BENT, BEST, less(1), fix(2, 0, 2), GREEDY, descend([1] * 4)))
        self.assertEqual(answers(join(*ALL_CALLS)), first)

    def test_questions_change_nothing(self):
        board = ALL_CALLS[:6]
        asks = ALL_CALLS[6:21]
        found = run(*board, *asks, *asks)
        self.assertEqual(found[6:21], found[21:])
        for ask in asks:
            self.assertEqual(run(*board, ask, *asks)[7:], found[21:])


class Limits(unittest.TestCase):
    def test_400_calls(self):
        found = run(*[LYING, STANDING, away(0), away(0)] * 99, LYING, STANDING, COUNTS, RING)
        self.assertEqual(found[-4:], [[0], [1], [2, 2, 0, 1, 0, 1], [0]])

    def test_30000_numbers(self):
        rows = [row_wire(0, 1, [5] * 10000), row_wire(0, 1, [5] * 10000), row_wire(0, 1, [5] * 9986)]
        calls = join(*rows, WIRES, COUNTS)
        self.assertEqual(len(calls), 30000)
        self.assertEqual(split(answers(calls)), [[-3], [-3], [-3], [0], [0] * 6])

    def test_long_rows(self):
        for count in (9999, 10000):
            row = [1] * count
            for call in (check(row), cost(row), vias(row), layer(1, row), flip(0, row), descend(row)):
                self.assertEqual(run(LYING, call, COUNTS)[1:], [[-3], [1, 1, 0, 0, 0, 1]])
        calls = join(LYING, check([1] * 10000), descend([2] * 10000), cost([1] * 9985), BEST)
        self.assertEqual(len(calls), 30000)
        self.assertEqual(split(answers(calls))[1:], [[-3], [-3], [-3], [0, 1, 1]])

    def test_full_boards_that_change_before_each_question(self):
        rng = random.Random(5)
        started = time.monotonic()
        for span, radius in ((BIG, 1), (BIG, RADIUS), (1000, 1), (1000, 300)):
            for shape in ([16] * 6 + [7], [5] * 24, [16] * 5 + [2] * 19):
                board = [wire(k, radius, *random_points(rng, count, span)) for k, count in enumerate(shape)]
                spare = wire(99, radius, *random_points(rng, shape[0], span))
                changes = [rules(1, 2), COUNTS, rules(2, 1), RING, fix(0, 0, 1), RING, fix(0, 0, 0), COUNTS,
                           price(0, 0, 0), corner(1, 0), away(0), spare, RING]
                calls = (board + changes * 40)[:400]
                found = run(*calls)
                self.assertEqual(found[len(board) - 1], [len(board) - 1])
                self.assertEqual(len(found), 400)
        # A fault bound alone: all of this takes a few seconds at most.
        self.assertLess(time.monotonic() - started, 120)

    def test_25_calls_of_wires_and_of_conflicts_on_a_full_board(self):
        board = [wire(k, RADIUS, *[(m, k) for m in range(5)]) for k in range(24)]
        found = run(*board, *[CONFLICTS, WIRES] * 25)
        self.assertEqual(found[24], found[72])
        self.assertEqual(found[24][0], 96 * 92 // 2)
        self.assertEqual(len(found[25]), 1 + 24 * (3 + 10 + 4 + 3))
        self.assertEqual(found[25], found[73])


    def test_full_boards_with_rows(self):
        rng = random.Random(8)
        started = time.monotonic()
        for span, nets, shape in ((BIG, 2, [16] * 6 + [7]), (1000, 2, [5] * 24), (1000, 24, [5] * 24),
                                  (100, 2, [16] * 6 + [7])):
            board = [wire(k % nets, 1, *random_points(rng, count, span)) for k, count in enumerate(shape)]
            rows = [[rng.randint(1, 2) for k in range(96)] for m in range(3)] + [last(*board, GREEDY)[2:]]
            asks = [cost(rows[0]), vias(rows[1]), layer(1, rows[2]), flip(rng.randrange(96), rows[0]),
                    descend(rows[3]), check(rows[1])]
            changes = [[rules(1 + k % 2, 1), less(k % len(board)), BEST, price(k % 5, 0, k), GREEDY, PARTS]
                       for k in range(60)]
            calls = board + asks * 30 + [call for group in changes for call in group]
            found = run(*calls[:400])
            self.assertEqual(found[len(board):len(board) + 6], found[len(board) + 6:len(board) + 12])
        # A fault bound alone, as above.
        self.assertLess(time.monotonic() - started, 60)

    def test_12_free_parts_asked_again_and_again(self):
        board = [wire(0, 1, *[(10 * k, 0) for k in range(15)]), fix(0, 0, 1), fix(0, 13, 2), LYING]
        started = time.monotonic()
        changes = [[price(0, k % 13, 1 + k), fix(0, 13, 1 + k % 2), less(1)] for k in range(132)]
        found = run(*board, *[call for group in changes for call in group])
        self.assertEqual(len(found), 400)
        self.assertEqual(found[6][0], 0)
        self.assertEqual(found[-1], [120])
        self.assertLess(time.monotonic() - started, 60)


def any_number(rng, most):
    return rng.choice([LOW, HIGH, -1, most, most + 1] + [rng.randint(0, max(most, 0))] * 12)


def any_row(rng, count):
    """A row of layers, or of other numbers, or of another length."""
    if rng.random() < 0.8:
        return [rng.randint(1, 2) for k in range(count)]
    count = rng.choice([0, count, count, count + 1, max(0, count - 1), 2 * count, rng.randint(0, 300)])
    return [rng.choice([1, 2, 0, 3, -1, LOW, HIGH]) for k in range(count)]


def any_wire(rng):
    net = rng.choice([0, 1, 1, 2, 0, 1, 2, 5, BIG, BIG + 1, -1])
    radius = rng.choice([1, 1, 1, 2, 3, 0, RADIUS + 1, -1])
    row = [rng.randint(-150, 150) for k in range(2 * rng.choice([2, 2, 3, 3, 4, 0, 1, 17]))]
    if rng.random() < 0.1:
        row = row[1:] + [rng.choice([BIG, -BIG, BIG + 1, LOW, HIGH])] * rng.randint(0, 2)
    return row_wire(net, radius, row)


def any_call(rng, model):
    """A call of any number, with anything that it may be given."""
    wires = len(model.wires)
    bars = len(model.bars())
    chosen = rng.randrange(24)
    if chosen == 2 or chosen == 5:
        # Else the boards would stay small.
        return rng.choice([away(any_number(rng, wires)), CLEAR] + [any_wire(rng)] * 5)
    if chosen == 0:
        return rules(any_number(rng, 4), any_number(rng, 4))
    if chosen == 3:
        return fix(any_number(rng, wires), any_number(rng, 3), any_number(rng, 2))
    if chosen == 4:
        return price(any_number(rng, wires), any_number(rng, 2), any_number(rng, 1000))
    if chosen == 9:
        return corner(any_number(rng, wires), any_number(rng, 2))
    if chosen in (14, 15, 16, 20):
        row = any_row(rng, bars)
        return [chosen, len(row)] + row
    if chosen in (17, 19):
        row = any_row(rng, bars)
        return [chosen, any_number(rng, 2 if chosen == 17 else bars), len(row)] + row
    if chosen == 18:
        return less(any_number(rng, wires))
    if chosen in (6, 7, 8, 10, 11, 12, 13):
        return [chosen]
    if chosen == 21 and model.do_greedy() != [-8]:
        return rng.choice([descend, check])(model.do_greedy()[2:])
    return any_wire(rng)


class Everything(unittest.TestCase):
    def line(self, rng):
        """A line of 400 calls and what the model answers, within what a line may hold."""
        left = {6: 25, 8: 25, 14: 35}
        model = Model()
        calls = []
        told = []
        while len(calls) < 400:
            call = any_call(rng, model)
            # The model takes its time on large boards.
            if len(model.bars()) > 11:
                call = rng.choice([CLEAR, away(0), away(1)])
            if left.get(call[0], 1) > 0:
                left[call[0]] = left.get(call[0], 400) - 1
                calls.append(call)
                told.append(model.answer(call))
        return calls, told

    def test_lines_of_400_calls(self):
        rng = random.Random(9)
        seen = {}
        for k in range(6):
            calls, told = self.line(rng)
            self.assertLessEqual(len(join(*calls)), 30000)
            found = run(*calls)
            for place in range(400):
                self.assertEqual(found[place], told[place], (k, calls[:place + 1]))
                seen[(calls[place][0], min(0, found[place][0]))] = True
            self.assertEqual(answers(join(*calls)), answers(Untouched(join(*calls))))
        self.assertEqual(sorted({number for number, answer in seen}), list(range(21)))
        refusals = {0: [-2], 1: [-2, -3], 2: [-1], 3: [-1, -5, -2], 4: [-1, -5, -2], 9: [-1, -5], 11: [-8], 12: [-8],
                    13: [-8], 14: [-3], 15: [-3], 16: [-3], 17: [-2, -3], 18: [-1, -8], 19: [-8, -6, -3],
                    20: [-8, -3, -10]}
        for number, given in refusals.items():
            for refusal in given:
                self.assertIn((number, refusal), seen)


if __name__ == "__main__":
    unittest.main()
