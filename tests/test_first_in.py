"""The questions of the chain about coming somewhere first: time and chance."""

import unittest
from fractions import Fraction
from itertools import combinations, permutations, product

from chain_model import ChainModel, chains
from model import CHAIN, FAR, RATE, answered, chance, flat_fractions, last, time

WALK = ChainModel(6, [(i, i + 1, 1) for i in range(5)] + [(i + 1, i, 1) for i in range(5)])
# 0 goes to 1 and to 2 goes none; 1 goes on to 3, which is never left.
DEAD_ENDS = ChainModel(4, [(0, 1, 2), (1, 3, 5)])


def ask(model, call):
    return last(*model.calls(), call)


class Time(unittest.TestCase):
    def test_by_hand(self):
        self.assertEqual(last([RATE, 0, 1, 2, 1], time(0, [1])), [1, 2])
        self.assertEqual(last([RATE, 0, 1, 10 ** 6, 1], time(0, [1])), [1, 10 ** 6])
        self.assertEqual(last([RATE, 0, 1, 1, 1000], time(0, [1])), [1000, 1])
        self.assertEqual(ask(ChainModel(3, [(0, 1, 1), (1, 2, 2), (2, 0, 3)]), time(0, [2])), [3, 2])

    def test_walk(self):
        for i in range(6):
            self.assertEqual(ask(WALK, time(i, [0, 5])), flat_fractions([Fraction(i * (5 - i), 2)]))
            self.assertEqual(ask(WALK, time(i, [5])), flat_fractions([Fraction(30 - i * (i + 1), 2)]))

    def test_unlike_denominators(self):
        model = ChainModel(3, [(0, 1, Fraction(1, 3)), (0, 2, Fraction(1, 7)), (1, 0, Fraction(2, 5))])
        # From 0 it takes 21/10; with the chance 7/10 one is in 1 then, for 5/2, and back.
        self.assertEqual(ask(model, time(0, [2])), flat_fractions([(Fraction(21, 10) + Fraction(7, 4)) / Fraction(3, 10)]))

    def test_in_one_of_the_states_already(self):
        for size in range(2, 7):
            for i in range(size):
                self.assertEqual(last([CHAIN, size], time(i, [i])), [0, 1])
                self.assertEqual(last([CHAIN, size], time(i, list(range(size)))), [0, 1])

    def test_no_states(self):
        for i in range(6):
            self.assertEqual(ask(WALK, time(i, [])), [-8])
        self.assertEqual(last(time(0, [])), [-8])

    def test_never_left(self):
        self.assertEqual(last(time(0, [1])), [-8])
        self.assertEqual(ask(DEAD_ENDS, time(2, [0, 1, 3])), [-8])

    def test_dead_end_that_one_does_not_come_to(self):
        self.assertEqual(ask(DEAD_ENDS, time(0, [3])), [7, 10])
        self.assertEqual(ask(DEAD_ENDS, time(1, [3])), [1, 5])
        self.assertEqual(ask(ChainModel(3, [(0, 1, 4), (2, 0, 1)]), time(0, [1])), [1, 4])

    def test_dead_end_behind_the_states_alone(self):
        self.assertEqual(ask(DEAD_ENDS, time(0, [1])), [1, 2])
        self.assertEqual(ask(ChainModel(5, [(0, 1, 4), (1, 2, 1), (2, 3, 1), (3, 2, 1)]), time(0, [1])), [1, 4])

    def test_dead_end_that_one_may_come_to(self):
        self.assertEqual(ask(ChainModel(3, [(0, 1, 4), (0, 2, 1)]), time(0, [1])), [-8])
        self.assertEqual(ask(ChainModel(4, [(0, 1, 4), (0, 2, 1), (2, 3, 1), (3, 2, 1)]), time(0, [1])), [-8])
        self.assertEqual(ask(ChainModel(4, [(0, 1, 4), (1, 0, 1), (1, 2, 1), (1, 3, 1)]), time(0, [3])), [-8])
        # 2 is behind 1, but can be come to round it too.
        self.assertEqual(ask(ChainModel(3, [(0, 1, 4), (1, 2, 1), (0, 2, 1)]), time(0, [1])), [-8])

    def test_dead_end_among_the_states(self):
        self.assertEqual(ask(ChainModel(3, [(0, 1, 4), (0, 2, 1)]), time(0, [1, 2])), [1, 5])

    def test_the_order_of_the_states_does_not_count(self):
        for states in permutations([0, 3, 5]):
            self.assertEqual(ask(WALK, time(2, states)), [1, 1])

    def test_list_not_as_told(self):
        for states in ([-1], [6], [-FAR], [FAR], [5, 6], [5, 5], [0, 5, 0], [2, 2], [2, -1], list(range(7)),
                       list(range(6)) + [0], [5] * 1000, list(range(1000)), [6] * 7):
            self.assertEqual(ask(WALK, time(2, states)), [-2])
        self.assertEqual(answered(time(0, [2]), [CHAIN, 3], time(0, [2])), [[-2], [0], [-8]])

    def test_i_out_of_range(self):
        for i in (-FAR, -1, 6, FAR):
            for states in ([0], [], [i], [0, 0], [7]):
                call = time(i, states)
                self.assertEqual(ask(WALK, call), [-1])

    def test_list_goes_before_no_way(self):
        for states in ([2], [-1], [1, 1], [0, 0], [1, 2], [0] * 1000):
            self.assertEqual(last(time(0, states)), [-2])


class Chance(unittest.TestCase):
    def test_by_hand(self):
        fork = ChainModel(3, [(0, 1, 1), (0, 2, Fraction(1, 2))])
        self.assertEqual(ask(fork, chance(0, [1], [2])), [2, 3])
        self.assertEqual(ask(fork, chance(0, [2], [1])), [1, 3])
        self.assertEqual(ask(ChainModel(3, [(0, 1, 10 ** 6), (0, 2, Fraction(1, 1000))]), chance(0, [2], [1])),
                         [1, 10 ** 9 + 1])

    def test_walk(self):
        for i in range(6):
            self.assertEqual(ask(WALK, chance(i, [5], [0])), flat_fractions([Fraction(i, 5)]))
            self.assertEqual(ask(WALK, chance(i, [0], [5])), flat_fractions([Fraction(5 - i, 5)]))

    def test_in_one_of_the_states_already(self):
        for i in range(2):
            self.assertEqual(last(chance(i, [i], [])), [1, 1])
            self.assertEqual(last(chance(i, [], [i])), [0, 1])
            self.assertEqual(last(chance(i, [i], [1 - i])), [1, 1])
            self.assertEqual(last(chance(i, [1 - i], [i])), [0, 1])
            self.assertEqual(last(chance(i, [0, 1], [])), [1, 1])
            self.assertEqual(last(chance(i, [], [0, 1])), [0, 1])

    def test_one_list_is_empty(self):
        self.assertEqual(ask(WALK, chance(2, [5], [])), [1, 1])
        self.assertEqual(ask(WALK, chance(2, [], [5])), [0, 1])
        self.assertEqual(ask(DEAD_ENDS, chance(0, [3], [])), [1, 1])
        self.assertEqual(ask(DEAD_ENDS, chance(0, [2], [])), [-8])
        self.assertEqual(ask(DEAD_ENDS, chance(0, [], [2])), [-8])

    def test_both_lists_are_empty(self):
        for i in range(6):
            self.assertEqual(ask(WALK, chance(i, [], [])), [-8])
        self.assertEqual(last(chance(0, [], [])), [-8])

    def test_states_that_one_does_not_come_to(self):
        self.assertEqual(ask(DEAD_ENDS, chance(0, [3], [2])), [1, 1])
        self.assertEqual(ask(DEAD_ENDS, chance(0, [2], [3])), [0, 1])
        self.assertEqual(ask(DEAD_ENDS, chance(0, [3], [1])), [0, 1])
        self.assertEqual(ask(DEAD_ENDS, chance(0, [1], [3])), [1, 1])

    def test_dead_end_that_one_does_not_come_to(self):
        self.assertEqual(ask(ChainModel(5, [(0, 1, 2), (0, 2, 3), (3, 0, 1)]), chance(0, [1], [2])), [2, 5])

    def test_dead_end_behind_the_states_alone(self):
        model = ChainModel(5, [(0, 1, 2), (0, 2, 3), (1, 3, 1), (2, 4, 1)])
        self.assertEqual(ask(model, chance(0, [1], [2])), [2, 5])
        self.assertEqual(ask(model, chance(0, [2], [1])), [3, 5])

    def test_dead_end_that_one_may_come_to(self):
        model = ChainModel(4, [(0, 1, 2), (0, 2, 3), (0, 3, 1)])
        self.assertEqual(ask(model, chance(0, [1], [2])), [-8])
        self.assertEqual(ask(model, chance(0, [1], [])), [-8])
        self.assertEqual(ask(model, chance(0, [1], [2, 3])), [1, 3])
        self.assertEqual(ask(model, chance(0, [1, 3], [2])), [1, 2])
        self.assertEqual(last(chance(0, [1], [])), [-8])

    def test_list_not_as_told(self):
        wrong = ([-1], [6], [-FAR], [FAR], [4, 4], [4, 3, 4], [4, 6], [2, 2], list(range(7)), [4] * 500)
        for states in wrong:
            for good in ([], [5]):
                self.assertEqual(ask(WALK, chance(2, states, good)), [-2])
                self.assertEqual(ask(WALK, chance(2, good, states)), [-2])
        self.assertEqual(ask(WALK, chance(2, list(range(500)), list(range(500)))), [-2])

    def test_state_in_both_lists(self):
        for states, others in [([5], [5]), ([2], [2]), ([0, 5], [5]), ([5], [0, 5]), ([0, 1, 2], [3, 4, 5, 0]),
                               (list(range(6)), list(range(6)))]:
            self.assertEqual(ask(WALK, chance(2, states, others)), [-2])

    def test_all_states_in_the_lists(self):
        self.assertEqual(ask(WALK, chance(2, [0, 1, 2], [3, 4, 5])), [1, 1])
        self.assertEqual(ask(WALK, chance(2, [5, 4, 3], [2, 1, 0])), [0, 1])

    def test_i_out_of_range(self):
        for i in (-FAR, -1, 6, FAR):
            for states, others in [([0], [5]), ([], []), ([i], []), ([], [i]), ([0], [0]), ([7], [0, 0])]:
                self.assertEqual(ask(WALK, chance(i, states, others)), [-1])

    def test_list_goes_before_no_way(self):
        for states, others in [([2], []), ([], [2]), ([1], [1]), ([1, 1], []), ([], [-1]), ([0], [0])]:
            self.assertEqual(last(chance(0, states, others)), [-2])


class ByModel(unittest.TestCase):
    def lists(self, size):
        found = []
        for count in range(size + 1):
            found += [list(states) for states in combinations(range(size), count)]
        return found

    def test_time(self):
        seen = {"told": 0, "refused": 0}
        for model in chains(2, 60):
            asked = list(product(range(model.size), self.lists(model.size)))
            for part in range(0, len(asked), 150):
                some = asked[part:part + 150]
                rows = answered(*model.calls(), *[time(i, states) for i, states in some])[-len(some):]
                self.assertEqual(rows, [model.time(i, states) for i, states in some])
                seen["refused"] += rows.count([-8])
                seen["told"] += len(rows) - rows.count([-8])
        self.assertGreater(min(seen.values()), 500)

    def test_chance(self):
        seen = {"told": 0, "refused": 0}
        for k, model in enumerate(chains(3, 60)):
            asked = [(i, states, others) for i, states, others
                     in product(range(model.size), self.lists(model.size), self.lists(model.size))
                     if not set(states) & set(others)][k % 7::7]
            for part in range(0, len(asked), 150):
                some = asked[part:part + 150]
                rows = answered(*model.calls(), *[chance(*call) for call in some])[-len(some):]
                self.assertEqual(rows, [model.chance(*call) for call in some])
                seen["refused"] += rows.count([-8])
                seen["told"] += len(rows) - rows.count([-8])
        self.assertGreater(min(seen.values()), 500)

    def test_the_two_chances_are_1_together(self):
        for model in chains(4, 30):
            one, other = last(*model.calls(), chance(0, [1], [model.size - 1])), \
                last(*model.calls(), chance(0, [model.size - 1], [1]))
            if model.size > 2 and one != [-8]:
                self.assertEqual(Fraction(*one) + Fraction(*other), 1)


if __name__ == "__main__":
    unittest.main()
