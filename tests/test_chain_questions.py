"""The questions of the chain: steady, even, trees, after."""

import unittest
from fractions import Fraction
from itertools import product

from chain_model import ChainModel, chains
from model import AFTER, CHAIN, EVEN, FAR, RATE, STEADY, TREES, answered, flat_fractions, last

BACK_AND_FORTH = ChainModel(2, [(0, 1, 2), (1, 0, 3)])
ROUND = ChainModel(3, [(0, 1, 1), (1, 2, 2), (2, 0, 3)])
ENDS_OF_RANGES = ChainModel(2, [(0, 1, 10 ** 6), (1, 0, Fraction(1, 1000))])
ONE_WAY = ChainModel(3, [(0, 1, 1), (1, 2, 1), (2, 1, 1)])


def full_chain(size):
    """All rates are above 0, with unlike denominators."""
    return ChainModel(size, [(i, j, Fraction(1000000 - 37 * i - j, 971 + 5 * i + j))
                             for i, j in product(range(size), repeat=2) if i != j])


def ring(size):
    """One can only go on round, so most states lead to most others by several steps alone."""
    return ChainModel(size, [(i, (i + 1) % size, Fraction(i + 1, i + 2)) for i in range(size)])


def path(size, rest=()):
    return ChainModel(size, [(i, i + 1, i + 2) for i in range(size - 1)]
                      + [(i + 1, i, Fraction(1, i + 3)) for i in range(size - 1)] + list(rest))


MANY = ([BACK_AND_FORTH, ROUND, ENDS_OF_RANGES, ONE_WAY] + [full_chain(size) for size in range(2, 7)]
        + [ring(size) for size in range(2, 7)] + [path(size) for size in range(2, 7)] + chains(1, 150))


def ask(model, *call):
    return last(*model.calls(), list(call))


class Steady(unittest.TestCase):
    def test_by_hand(self):
        self.assertEqual(ask(BACK_AND_FORTH, STEADY), [3, 5, 2, 5])
        self.assertEqual(ask(ROUND, STEADY), [6, 11, 3, 11, 2, 11])
        self.assertEqual(ask(ENDS_OF_RANGES, STEADY), [1, 10 ** 9 + 1, 10 ** 9, 10 ** 9 + 1])

    def test_by_several_steps(self):
        for size in range(2, 7):
            even_ring = ChainModel(size, [(i, (i + 1) % size, 7) for i in range(size)])
            self.assertEqual(ask(even_ring, STEADY), [1, size] * size)

    def test_rates_need_not_be_in_lowest_terms(self):
        self.assertEqual(last([RATE, 0, 1, 20, 10], [RATE, 1, 0, 300, 100], [STEADY]), [3, 5, 2, 5])

    def test_sum_is_one_and_each_state_is_in_balance(self):
        for model in [full_chain(size) for size in range(2, 7)] + [ring(6), path(6)]:
            row = ask(model, STEADY)
            p = [Fraction(row[k], row[k + 1]) for k in range(0, len(row), 2)]
            self.assertEqual((len(p), sum(p)), (model.size, 1))
            for i in range(model.size):
                self.assertEqual(p[i] * model.left(i), sum(p[j] * model.rates[j][i] for j in range(model.size)))

    def test_some_state_does_not_lead_to_another(self):
        self.assertEqual(last([STEADY]), [-8])
        self.assertEqual(last([RATE, 0, 1, 1, 1], [STEADY]), [-8])
        self.assertEqual(last([RATE, 1, 0, 1, 1], [STEADY]), [-8])
        self.assertEqual(ask(ONE_WAY, STEADY), [-8])
        for size in range(2, 7):
            self.assertEqual(last([CHAIN, size], [STEADY]), [-8])
            for cut in range(size):
                model = ring(size)
                model.rates[cut][(cut + 1) % size] = Fraction(0)
                self.assertEqual(ask(model, STEADY), [-8])

    def test_two_parts(self):
        self.assertEqual(ask(ChainModel(4, [(0, 1, 1), (1, 0, 1), (2, 3, 1), (3, 2, 1)]), STEADY), [-8])
        self.assertEqual(ask(ChainModel(4, [(0, 1, 1), (1, 0, 1), (2, 3, 1), (3, 2, 1), (1, 2, 1)]), STEADY), [-8])

    def test_by_model(self):
        told = 0
        for model in MANY:
            row = ask(model, STEADY)
            self.assertEqual(row, model.steady())
            told += row != [-8]
        self.assertTrue(40 < told < len(MANY) - 40)


class Even(unittest.TestCase):
    def test_even(self):
        self.assertEqual(ask(BACK_AND_FORTH, EVEN), [1])
        self.assertEqual(ask(ENDS_OF_RANGES, EVEN), [1])
        for size in range(2, 7):
            self.assertEqual(ask(path(size), EVEN), [1])
        same = ChainModel(6, [(i, j, Fraction(4, 9)) for i, j in product(range(6), repeat=2) if i != j])
        self.assertEqual(ask(same, EVEN), [1])

    def test_even_round(self):
        by_share = ChainModel(3, [(i, j, j + 1) for i, j in product(range(3), repeat=2) if i != j])
        self.assertEqual(ask(by_share, EVEN), [1])

    def test_first_two_states(self):
        self.assertEqual(ask(ROUND, EVEN), [0, 0, 1])
        for size in range(3, 7):
            self.assertEqual(ask(ring(size), EVEN), [0, 0, 1])
        self.assertEqual(ask(ChainModel(4, [(0, 1, 1), (1, 0, 1), (0, 2, 1), (2, 3, 1), (3, 0, 1)]), EVEN), [0, 0, 2])
        self.assertEqual(ask(ChainModel(4, [(0, 1, 1), (1, 0, 1), (1, 2, 1), (2, 3, 1), (3, 1, 1)]), EVEN), [0, 1, 2])
        self.assertEqual(ask(ChainModel(5, [(0, 1, 1), (1, 0, 1), (1, 2, 1), (2, 1, 1), (1, 3, 1), (3, 4, 1),
                                            (4, 1, 1)]), EVEN), [0, 1, 3])
        self.assertEqual(ask(ChainModel(6, [(0, 1, 1), (1, 0, 1), (1, 2, 1), (2, 1, 1), (2, 3, 1), (3, 2, 1),
                                            (3, 4, 1), (4, 5, 1), (5, 3, 1)]), EVEN), [0, 3, 4])

    def test_some_state_does_not_lead_to_another(self):
        self.assertEqual(last([EVEN]), [-8])
        self.assertEqual(last([RATE, 0, 1, 1, 1], [EVEN]), [-8])
        self.assertEqual(ask(ONE_WAY, EVEN), [-8])
        for size in range(2, 7):
            self.assertEqual(last([CHAIN, size], [EVEN]), [-8])

    def test_by_model(self):
        seen = set()
        for model in MANY:
            row = ask(model, EVEN)
            self.assertEqual(row, model.even())
            seen.add(tuple(row))
        self.assertLessEqual({(1,), (-8,), (0, 0, 1), (0, 0, 2)}, seen)


class Trees(unittest.TestCase):
    def test_by_hand(self):
        self.assertEqual([ask(BACK_AND_FORTH, TREES, i) for i in range(2)], [[3, 1], [2, 1]])
        self.assertEqual([ask(ROUND, TREES, i) for i in range(3)], [[6, 1], [3, 1], [2, 1]])
        self.assertEqual([ask(ENDS_OF_RANGES, TREES, i) for i in range(2)], [[1, 1000], [10 ** 6, 1]])

    def test_how_many_trees_there_are(self):
        for size in range(2, 7):
            ones = ChainModel(size, [(i, j, 1) for i, j in product(range(size), repeat=2) if i != j])
            for i in range(size):
                self.assertEqual(ask(ones, TREES, i), [size ** (size - 2), 1])

    def test_the_scale_counts_once_for_each_rate(self):
        for size in range(2, 7):
            small = ChainModel(size, [(i, j, Fraction(1, 7)) for i, j in product(range(size), repeat=2) if i != j])
            self.assertEqual(ask(small, TREES, 0), flat_fractions([Fraction(size ** (size - 2), 7 ** (size - 1))]))

    def test_no_tree(self):
        self.assertEqual(answered([TREES, 0], [TREES, 1]), [[0, 1], [0, 1]])
        self.assertEqual(answered([RATE, 0, 1, 5, 3], [TREES, 0], [TREES, 1]), [[0], [0, 1], [5, 3]])
        self.assertEqual([ask(ONE_WAY, TREES, i) for i in range(3)], [[0, 1], [1, 1], [1, 1]])
        for size in range(2, 7):
            self.assertEqual(answered([CHAIN, size], *[[TREES, i] for i in range(size)])[1:], [[0, 1]] * size)

    def test_rates_out_of_the_state_itself_do_not_count(self):
        self.assertEqual(ask(ChainModel(3, [(0, 1, 9), (0, 2, 9), (1, 0, 2), (2, 0, 5)]), TREES, 0), [10, 1])

    def test_rounds_are_no_trees(self):
        self.assertEqual(ask(ChainModel(3, [(1, 2, 4), (2, 1, 5)]), TREES, 0), [0, 1])
        self.assertEqual(ask(ChainModel(5, [(1, 0, 1), (2, 3, 4), (3, 4, 5), (4, 2, 6)]), TREES, 0), [0, 1])

    def test_out_of_range(self):
        for size in range(2, 7):
            for i in (-FAR, -1, size, size + 1, FAR):
                self.assertEqual(last([CHAIN, size], [TREES, i]), [-1])

    def test_by_model(self):
        for model in MANY:
            rows = answered(*model.calls(), *[[TREES, i] for i in range(model.size)])[-model.size:]
            self.assertEqual(rows, [model.trees(i) for i in range(model.size)])


class After(unittest.TestCase):
    def test_by_hand(self):
        self.assertEqual([ask(BACK_AND_FORTH, AFTER, 0, k) for k in range(3)],
                         [[1, 1, 0, 1], [1, 3, 2, 3], [7, 9, 2, 9]])
        self.assertEqual([ask(BACK_AND_FORTH, AFTER, 1, k) for k in range(3)],
                         [[0, 1, 1, 1], [1, 1, 0, 1], [1, 3, 2, 3]])

    def test_no_step(self):
        for size in range(2, 7):
            for i in range(size):
                self.assertEqual(ask(ring(size), AFTER, i, 0), flat_fractions(int(i == j) for j in range(size)))

    def test_one_step_by_the_greatest_rate(self):
        model = ChainModel(3, [(0, 1, 1), (0, 2, Fraction(1, 2)), (1, 0, 6)])
        self.assertEqual(ask(model, AFTER, 0, 1), [3, 4, 1, 6, 1, 12])
        self.assertEqual(ask(model, AFTER, 1, 1), [1, 1, 0, 1, 0, 1])
        self.assertEqual(ask(model, AFTER, 2, 1), [0, 1, 0, 1, 1, 1])

    def test_twelve_steps(self):
        self.assertEqual(ask(ring(2), AFTER, 0, 12), ring(2).after(0, 12))
        one_way = ChainModel(2, [(0, 1, 1)])
        self.assertEqual(ask(one_way, AFTER, 0, 12), [0, 1, 1, 1])
        slow = ChainModel(3, [(0, 1, 1), (2, 1, 2)])
        self.assertEqual(ask(slow, AFTER, 0, 12), [1, 4096, 4095, 4096, 0, 1])

    def test_all_rates_0(self):
        for size in range(2, 7):
            for i, k in product(range(size), (0, 1, 12)):
                self.assertEqual(last([CHAIN, size], [AFTER, i, k]), [-8])
        self.assertEqual(answered([RATE, 0, 1, 1, 1], [AFTER, 1, 0], [RATE, 0, 1, 0, 1], [AFTER, 1, 0])[1::2],
                         [[0, 1, 1, 1], [-8]])

    def test_out_of_range(self):
        for i, k in product((-FAR, -1, 3, FAR), (-FAR, -1, 0, 12, 13, FAR)):
            self.assertEqual(ask(ROUND, AFTER, i, k), [-1])
        for k in (-FAR, -1, 13, FAR):
            self.assertEqual(ask(ROUND, AFTER, 2, k), [-1])

    def test_out_of_range_goes_before_all_rates_0(self):
        self.assertEqual(answered([AFTER, 2, 0], [AFTER, -1, 0], [AFTER, 0, 13], [AFTER, 0, -1]), [[-1]] * 4)

    def test_by_model(self):
        for model in MANY:
            asked = list(product(range(model.size), (0, 1, 2, 12)))
            rows = answered(*model.calls(), *[[AFTER, i, k] for i, k in asked])[-len(asked):]
            self.assertEqual(rows, [model.after(i, k) for i, k in asked])

    def test_far_beyond_the_ranges(self):
        self.assertGreater(max(ask(full_chain(6), AFTER, 0, 12)), 10 ** 500)


if __name__ == "__main__":
    unittest.main()
