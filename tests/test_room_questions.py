"""The questions of the room: shares, lost, means, takers, lines, loss, balance."""

import unittest
from fractions import Fraction
from math import factorial, gcd

from model import (BALANCE, CHAIN, LINES, LOSS, LOST, MEANS, ROOM, SHARES, TAKERS, Model, answered, balance,
                   flat_fractions, last, models)

GIVING_UP = [ROOM, 2, 1, 1, 1, 1, 1, 1, 2]
NO_WAITING = [ROOM, 2, 2, 2, 1, 1, 1, 5, 1]


class Shares(unittest.TestCase):
    def test_by_hand(self):
        self.assertEqual(last([SHARES]), [1, 2, 1, 2])
        self.assertEqual(last(GIVING_UP, [SHARES]), [3, 8, 3, 8, 1, 4])
        self.assertEqual(last(NO_WAITING, [SHARES]), [1, 5, 2, 5, 2, 5])

    def test_by_model(self):
        for model in models():
            self.assertEqual(last(model.call(), [SHARES]), flat_fractions(model.shares()))

    def test_sum_is_one_and_each_step_is_even(self):
        for model in models():
            row = last(model.call(), [SHARES])
            self.assertEqual(len(row), 2 * (model.lines + 1))
            p = [Fraction(row[k], row[k + 1]) for k in range(0, len(row), 2)]
            self.assertEqual(sum(p), 1)
            for i in range(model.lines):
                self.assertEqual(p[i] * model.a, p[i + 1] * model.down(i + 1))

    def test_lowest_terms_far_beyond_the_ranges(self):
        row = last(Model(24, 7, Fraction(999983, 997), Fraction(999979, 991), Fraction(999961, 983)).call(), [SHARES])
        self.assertGreater(max(row), 10 ** 200)
        for k in range(0, len(row), 2):
            self.assertGreater(row[k + 1], 0)
            self.assertEqual(gcd(row[k], row[k + 1]), 1)

    def test_rates_need_not_be_in_lowest_terms(self):
        self.assertEqual(last([ROOM, 2, 1, 6, 6, 10, 10, 3, 6], [SHARES]), [3, 8, 3, 8, 1, 4])


class Lost(unittest.TestCase):
    def test_by_hand(self):
        self.assertEqual(last([LOST]), [1, 2, 0, 1, 0, 1, 1, 2])
        self.assertEqual(last(GIVING_UP, [LOST]), [1, 4, 3, 8, 1, 8, 3, 8])
        self.assertEqual(last(NO_WAITING, [LOST]), [2, 5, 0, 1, 0, 1, 2, 5])

    def test_by_model(self):
        for model in models():
            self.assertEqual(last(model.call(), [LOST]), flat_fractions(model.lost()))


class Means(unittest.TestCase):
    def test_by_hand(self):
        self.assertEqual(last([MEANS]), [1, 2, 1, 2, 0, 1, 1, 2, 1, 1])
        self.assertEqual(last(GIVING_UP, [MEANS]), [7, 8, 5, 8, 1, 4, 3, 4, 7, 6])
        self.assertEqual(last(NO_WAITING, [MEANS]), [6, 5, 6, 5, 0, 1, 6, 5, 1, 1])

    def test_rates_with_denominators(self):
        self.assertEqual(last([ROOM, 2, 1, 1, 3, 1, 3, 1, 6], [MEANS]), [7, 8, 5, 8, 1, 4, 1, 4, 7, 2])

    def test_by_model(self):
        for model in models():
            self.assertEqual(last(model.call(), [MEANS]), flat_fractions(model.means()))


class Takers(unittest.TestCase):
    def test_least_that_it_begins_at(self):
        self.assertEqual(last(GIVING_UP, [TAKERS, 3, 8]), [1, 3, 8, 1, 1])

    def test_all_calls_may_be_unserved(self):
        self.assertEqual(last(GIVING_UP, [TAKERS, 1, 1]), [1, 3, 8, 1, 1])
        self.assertEqual(last(GIVING_UP, [TAKERS, 10 ** 9, 10 ** 9]), [1, 3, 8, 1, 1])

    def test_greater(self):
        self.assertEqual(last(GIVING_UP, [TAKERS, 374, 1000]), [2, 1, 5, 3, 8])
        self.assertEqual(last(GIVING_UP, [TAKERS, 1, 5]), [2, 1, 5, 3, 8])

    def test_no_number_is_enough(self):
        self.assertEqual(last(GIVING_UP, [TAKERS, 199, 1000]), [0])
        self.assertEqual(last(GIVING_UP, [TAKERS, 0, 1]), [0])
        self.assertEqual(last(GIVING_UP, [TAKERS, 0, 10 ** 9]), [0])

    def test_the_rooms_own_takers_do_not_count(self):
        self.assertEqual(last([ROOM, 2, 2, 1, 1, 1, 1, 1, 2], [TAKERS, 3, 8]), [1, 3, 8, 1, 1])

    def test_by_model(self):
        seen = set()
        for model in models():
            for n, d in [(0, 1), (1, 10 ** 9), (1, 1000), (1, 20), (3, 10), (9, 10), (1, 1)]:
                row = last(model.call(), [TAKERS, n, d])
                self.assertEqual(row, model.least_takers(n, d))
                seen.add(row[0])
        self.assertGreater(len(seen), 5)


class Lines(unittest.TestCase):
    def test_least_that_it_begins_at(self):
        self.assertEqual(last([LINES, 1, 2]), [1, 1, 2, 1, 1])
        self.assertEqual(last([ROOM, 3, 2, 1, 1, 1, 1, 0, 1], [LINES, 1, 5]), [2, 1, 5, 1, 1])

    def test_all_calls_may_be_lost(self):
        self.assertEqual(last([LINES, 1, 1]), [1, 1, 2, 1, 1])
        self.assertEqual(last(NO_WAITING, [LINES, 10 ** 9, 10 ** 9]), [2, 2, 5, 1, 1])

    def test_greater(self):
        self.assertEqual(last([LINES, 1, 3]), [2, 1, 3, 1, 2])
        self.assertEqual(last([LINES, 1, 25]), [24, 1, 25, 1, 24])

    def test_no_number_is_enough(self):
        self.assertEqual(last([LINES, 1, 26]), [0])
        self.assertEqual(last([LINES, 0, 1]), [0])
        self.assertEqual(last([LINES, 0, 10 ** 9]), [0])

    def test_the_rooms_own_lines_do_not_count(self):
        self.assertEqual(last([ROOM, 24, 1, 1, 1, 1, 1, 0, 1], [LINES, 1, 3]), [2, 1, 3, 1, 2])

    def test_as_many_takers_as_lines_at_the_end(self):
        model = Model(24, 24, 30, 1, 0)
        share = model.shares()[-1]
        self.assertEqual(last(model.call(), [LINES, 1, 2]), [24] + flat_fractions([share, 1]))
        self.assertEqual(last(model.call(), [LINES, 1, 100]), [0])

    def test_by_model(self):
        seen = set()
        for model in models():
            for n, d in [(0, 1), (1, 10 ** 9), (1, 1000), (1, 20), (3, 10), (9, 10), (1, 1)]:
                row = last(model.call(), [LINES, n, d])
                self.assertEqual(row, model.least_lines(n, d))
                seen.add(row[0])
        self.assertGreater(len(seen), 5)


class Loss(unittest.TestCase):
    def test_by_hand(self):
        self.assertEqual(answered([LOSS, 0], [LOSS, 1], [LOSS, 2], [LOSS, 3]), [[1, 1], [1, 2], [1, 5], [1, 16]])
        self.assertEqual(last(NO_WAITING, [LOSS, 2]), [2, 5])

    def test_neither_lines_nor_takers_nor_giving_up_count(self):
        self.assertEqual(last([ROOM, 24, 5, 2, 1, 1, 1, 7, 3], [LOSS, 2]), [2, 5])

    def test_far_end_by_the_sum_over_states(self):
        x = Fraction(21, 4)
        terms = [x ** k / factorial(k) for k in range(25)]
        self.assertEqual(last([ROOM, 1, 1, 7, 2, 2, 3, 0, 1], [LOSS, 24]), flat_fractions([terms[24] / sum(terms)]))

    def test_by_model(self):
        for model in models():
            for k in (0, 1, 7, 24):
                self.assertEqual(last(model.call(), [LOSS, k]), flat_fractions([model.loss(k)]))


class Balance(unittest.TestCase):
    def test_shares_are_in_balance(self):
        self.assertEqual(last(balance([1, 2, 1, 2])), [0])
        self.assertEqual(last(GIVING_UP, balance([3, 8, 3, 8, 1, 4])), [0])
        self.assertEqual(last(GIVING_UP, balance([6, 16, 9, 24, 250, 1000])), [0])

    def test_shares_of_24_lines(self):
        model = Model(24, 1, 2, 1, 0)
        self.assertEqual(last(model.call(), balance(flat_fractions(model.shares()))), [0])
        self.assertEqual(last(model.call(), balance(flat_fractions([2 * p for p in model.shares()]))), [2])

    def test_far_denominators(self):
        self.assertEqual(last(balance([5 * 10 ** 17, 10 ** 18, 5 * 10 ** 17, 10 ** 18])), [0])
        self.assertEqual(last(balance([10 ** 18, 10 ** 18, 10 ** 18, 10 ** 18])), [2])
        self.assertEqual(last(balance([5 * 10 ** 17, 10 ** 18, 5 * 10 ** 17 - 1, 10 ** 18])), [1, 0])

    def test_sum_is_not_one(self):
        self.assertEqual(last(balance([0, 1, 0, 1])), [2])
        self.assertEqual(last(balance([-1, 2, -1, 2])), [2])
        self.assertEqual(last(GIVING_UP, balance([3, 4, 3, 4, 1, 2])), [2])

    def test_least_step_out_of_balance(self):
        self.assertEqual(last(balance([1, 2, 1, 3])), [1, 0])
        self.assertEqual(last(balance([1, 2, -1, 2])), [1, 0])
        self.assertEqual(last(GIVING_UP, balance([3, 8, 3, 8, 3, 8])), [1, 1])
        self.assertEqual(last(GIVING_UP, balance([1, 2, 1, 4, 1, 4])), [1, 0])

    def test_each_step(self):
        model = Model(24, 1, 2, 1, 0)
        for i in range(24):
            p = [Fraction(1)]
            for k in range(24):
                p.append(p[k] * model.a / model.down(k + 1) * (2 if k in (i, 23) else 1))
            self.assertEqual(last(model.call(), balance(flat_fractions(p))), [1, i])

    def test_by_model(self):
        seen = 0
        for model in models():
            row = flat_fractions(model.shares())
            if max(row) <= 10 ** 18:
                self.assertEqual(last(model.call(), balance(row)), [0])
                row[0] += row[1]
                self.assertEqual(last(model.call(), balance(row)), [1, 0])
                seen += model.takers < model.lines and model.t > 0
        self.assertGreater(seen, 2)


class NothingChanges(unittest.TestCase):
    def test_questions_change_nothing(self):
        model = Model(5, 3, 5, 1, Fraction(1, 2))
        questions = [[SHARES], [LOST], [MEANS], [TAKERS, 1, 5], [LINES, 1, 50], [LOSS, 7], balance([1, 1] * 6)]
        rows = answered(model.call(), *questions, *reversed(questions))[1:]
        self.assertEqual(rows[:7], rows[:6:-1])
        self.assertEqual(rows[0], flat_fractions(model.shares()))

    def test_places(self):
        self.assertEqual([ROOM, SHARES, LOST, MEANS, TAKERS, LINES, LOSS, BALANCE, CHAIN], list(range(9)))


if __name__ == "__main__":
    unittest.main()
