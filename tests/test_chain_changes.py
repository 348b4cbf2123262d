"""The calls rate, chain, copy, and told, by which what they changed is seen."""

import unittest
from fractions import Fraction
from itertools import product

from chain_model import ChainModel, copied
from model import (AFTER, CHAIN, CHANCE, COPY, EVEN, FAR, LOSS, RATE, ROOM, SHARES, STEADY, TIME, TOLD, TREES, Model,
                   answered, chance, flat_fractions, last, time)

FIRST_ROOM = [1, 1, 1, 1, 1, 1, 0, 1]
FIRST_CHAIN = [2] + [0, 1] * 4


def told_chain(model):
    return [model.size] + flat_fractions(value for row in model.rates for value in row)


class Told(unittest.TestCase):
    def test_before_the_first_call(self):
        self.assertEqual(last([TOLD]), FIRST_ROOM + FIRST_CHAIN)

    def test_after_room(self):
        self.assertEqual(last([ROOM, 5, 3, 7, 2, 3, 4, 1, 7], [TOLD]), [5, 3, 7, 2, 3, 4, 1, 7] + FIRST_CHAIN)
        self.assertEqual(last([ROOM, 24, 24, 10 ** 6, 1, 1, 1000, 0, 1], [TOLD]),
                         [24, 24, 10 ** 6, 1, 1, 1000, 0, 1] + FIRST_CHAIN)

    def test_rates_of_the_room_in_lowest_terms(self):
        self.assertEqual(last([ROOM, 5, 3, 14, 4, 30, 40, 0, 7], [TOLD]), [5, 3, 7, 2, 3, 4, 0, 1] + FIRST_CHAIN)
        self.assertEqual(last([ROOM, 1, 1, 10 ** 6, 1000, 1000, 1000, 6, 1000], [TOLD]),
                         [1, 1, 1000, 1, 1, 1, 3, 500] + FIRST_CHAIN)
        for lines, a, s, t in [(2, "999983/997", "999979/991", "999961/983"), (24, "1/1000", "1000000", "0")]:
            model = Model(lines, 2, a, s, t)
            self.assertEqual(last(model.call(), [TOLD]), model.call()[1:] + FIRST_CHAIN)

    def test_after_chain(self):
        for size in range(2, 7):
            self.assertEqual(last([CHAIN, size], [TOLD]), FIRST_ROOM + [size] + [0, 1] * size * size)

    def test_after_rate(self):
        self.assertEqual(last([RATE, 0, 1, 3, 7], [TOLD]), FIRST_ROOM + [2, 0, 1, 3, 7, 0, 1, 0, 1])
        self.assertEqual(last([RATE, 1, 0, 3, 7], [TOLD]), FIRST_ROOM + [2, 0, 1, 0, 1, 3, 7, 0, 1])

    def test_rates_of_the_chain_in_lowest_terms(self):
        self.assertEqual(last([RATE, 0, 1, 6, 14], [RATE, 1, 0, 0, 1000], [TOLD])[8:], [2, 0, 1, 3, 7, 0, 1, 0, 1])
        self.assertEqual(last([RATE, 0, 1, 10 ** 6, 1000], [RATE, 1, 0, 500, 1000], [TOLD])[8:],
                         [2, 0, 1, 1000, 1, 1, 2, 0, 1])

    def test_the_rates_stand_in_the_order_of_their_states(self):
        rates = [(i, j, Fraction(10 * i + j, 7)) for i, j in product(range(6), repeat=2) if i != j]
        model = ChainModel(6, rates)
        self.assertEqual(last(*model.calls(), [TOLD]), FIRST_ROOM + told_chain(model))

    def test_after_copy(self):
        self.assertEqual(last([ROOM, 2, 1, 1, 1, 1, 1, 1, 2], [COPY], [TOLD]),
                         [2, 1, 1, 1, 1, 1, 1, 2] + [3, 0, 1, 1, 1, 0, 1, 1, 1, 0, 1, 1, 1, 0, 1, 3, 2, 0, 1])

    def test_changes_nothing(self):
        rows = answered([CHAIN, 3], [RATE, 0, 1, 1, 2], [TOLD], [TOLD])
        self.assertEqual(rows[2], rows[3])


class Rates(unittest.TestCase):
    def test_answers_0(self):
        for size in range(2, 7):
            for i, j in product(range(size), repeat=2):
                self.assertEqual(last([CHAIN, size], [RATE, i, j, 1, 1]), [0] if i != j else [-4])

    def test_ends_of_the_ranges(self):
        for num, den in [(0, 1), (0, 1000), (1, 1000), (10 ** 6, 1), (10 ** 6, 1000)]:
            rows = answered([RATE, 0, 1, num, den], [TOLD])
            self.assertEqual(rows[0], [0])
            self.assertEqual(rows[1][11:13], flat_fractions([Fraction(num, den)]))

    def test_each_rate_by_itself(self):
        for i, j in product(range(6), repeat=2):
            if i != j:
                self.assertEqual(last([CHAIN, 6], [RATE, i, j, 5, 3], [TOLD])[8:],
                                 told_chain(ChainModel(6, [(i, j, Fraction(5, 3))])))

    def test_set_twice_and_back_to_0(self):
        told = answered([RATE, 0, 1, 5, 3], [TOLD], [RATE, 0, 1, 2, 9], [TOLD], [RATE, 0, 1, 0, 9], [TOLD])[1::2]
        self.assertEqual([row[11:13] for row in told], [[5, 3], [2, 9], [0, 1]])
        self.assertEqual(answered([RATE, 0, 1, 5, 3], [RATE, 1, 0, 1, 1], [RATE, 0, 1, 2, 1], [STEADY],
                                  [RATE, 0, 1, 0, 1], [STEADY])[3::2], [[1, 3, 2, 3], [-8]])

    def test_out_of_range(self):
        good = [RATE, 0, 1, 5, 3]
        for k, low, high in [(1, 0, 2), (2, 0, 2), (3, 0, 10 ** 6), (4, 1, 1000)]:
            for wrong in (low - 1, high + 1, -FAR, FAR):
                call = list(good)
                call[k] = wrong
                self.assertEqual(answered([CHAIN, 3], good, call, [TOLD]),
                                 [[0], [0], [-1], FIRST_ROOM + told_chain(ChainModel(3, [(0, 1, Fraction(5, 3))]))])

    def test_refused_where_i_is_j(self):
        self.assertEqual(answered([RATE, 0, 1, 5, 3], [RATE, 1, 1, 1, 1], [RATE, 0, 0, 0, 1], [TOLD]),
                         [[0], [-4], [-4], FIRST_ROOM + [2, 0, 1, 5, 3, 0, 1, 0, 1]])

    def test_out_of_range_goes_before_i_is_j(self):
        for call in ([RATE, 2, 2, 1, 1], [RATE, -1, -1, 1, 1], [RATE, FAR, FAR, 1, 1], [RATE, 1, 1, -1, 1],
                     [RATE, 1, 1, 10 ** 6 + 1, 1], [RATE, 1, 1, 1, 0], [RATE, 1, 1, 1, 1001]):
            self.assertEqual(last(call), [-1])

    def test_ranges_are_those_of_the_chain_as_it_is(self):
        call = [RATE, 2, 3, 1, 1]
        self.assertEqual(answered(call, [CHAIN, 4], call, [CHAIN, 3], call, [ROOM, 3, 1, 1, 1, 1, 1, 0, 1], call,
                                  [COPY], call, [RATE, 4, 4, 1, 1], [RATE, 3, 3, 1, 1], [CHAIN, 7], call),
                         [[-1], [0], [0], [0], [-1], [0], [-1], [0], [0], [-1], [-4], [-1], [0]])


class ChainMadeAnew(unittest.TestCase):
    def test_by_chain(self):
        for size in range(2, 7):
            self.assertEqual(last([CHAIN, 3], [RATE, 0, 1, 5, 3], [RATE, 2, 1, 1, 1], [CHAIN, size], [TOLD]),
                             FIRST_ROOM + [size] + [0, 1] * size * size)

    def test_by_copy(self):
        room = Model(2, 2, 3, 1, 0)
        rates = [[RATE, i, j, 5, 3] for i, j in product(range(3), repeat=2) if i != j]
        self.assertEqual(last([CHAIN, 3], *rates, room.call(), [COPY], [TOLD])[8:], told_chain(copied(room)))

    def test_refused_chain_leaves_it(self):
        for size in (-FAR, -1, 0, 1, 7, FAR):
            self.assertEqual(answered([RATE, 0, 1, 5, 3], [CHAIN, size], [TOLD])[1:],
                             [[-1], FIRST_ROOM + [2, 0, 1, 5, 3, 0, 1, 0, 1]])

    def test_room_leaves_the_chain(self):
        self.assertEqual(last([RATE, 0, 1, 5, 3], [ROOM, 4, 1, 1, 1, 1, 1, 0, 1], [TOLD])[8:],
                         [2, 0, 1, 5, 3, 0, 1, 0, 1])

    def test_chain_and_rate_leave_the_room(self):
        asked = [[SHARES], [LOSS, 5]]
        room = [ROOM, 4, 1, 3, 1, 1, 1, 1, 9]
        self.assertEqual(answered(room, [CHAIN, 5], [RATE, 4, 0, 7, 2], [COPY], [RATE, 0, 1, 8, 1], *asked)[5:],
                         answered(room, *asked)[1:])


class Copies(unittest.TestCase):
    def rooms(self):
        for lines in range(1, 6):
            for takers in range(1, lines + 1):
                for a, s, t in [(1, 1, 0), (5, Fraction(2, 3), Fraction(1, 7)), (10 ** 6, Fraction(1, 1000), 10 ** 6),
                                (Fraction(1, 1000), 10 ** 6, 0)]:
                    yield Model(lines, takers, a, s, t)

    def test_told(self):
        for room in self.rooms():
            rows = answered([CHAIN, 6], [RATE, 5, 0, 1, 1], room.call(), [COPY], [TOLD])
            self.assertEqual(rows[3], [0])
            self.assertEqual(rows[4], room.call()[1:] + told_chain(copied(room)))

    def test_the_room_before_the_first_call(self):
        self.assertEqual(answered([COPY], [TOLD]), [[0], FIRST_ROOM + [2, 0, 1, 1, 1, 1, 1, 0, 1]])

    def test_long_run_shares_are_the_rooms(self):
        for room in self.rooms():
            rows = answered(room.call(), [SHARES], [COPY], [STEADY], [EVEN])
            self.assertEqual(rows[1], rows[3])
            self.assertEqual(rows[4], [1])

    def test_more_than_5_lines(self):
        before = [[CHAIN, 3], [RATE, 0, 2, 5, 3]]
        for lines in range(6, 25):
            for takers in (1, lines):
                room = [ROOM, lines, takers, 1, 1, 1, 1, 0, 1]
                rows = answered(*before, room, [COPY], [TOLD])
                self.assertEqual(rows[3:], [[-6], room[1:] + told_chain(ChainModel(3, [(0, 2, Fraction(5, 3))]))])

    def test_stays_when_the_room_changes(self):
        room = Model(3, 2, 2, 1, Fraction(1, 2))
        rows = answered(room.call(), [COPY], [ROOM, 5, 5, 9, 1, 9, 1, 9, 1], [TOLD], [ROOM, 24, 5, 9, 1, 9, 1, 9, 1],
                        [COPY], [TOLD])
        self.assertEqual(rows[3][8:], told_chain(copied(room)))
        self.assertEqual(rows[5], [-6])
        self.assertEqual(rows[6][8:], told_chain(copied(room)))

    def test_rates_may_be_set_behind_it(self):
        rows = answered([COPY], [RATE, 0, 1, 0, 1], [TOLD], [SHARES], [COPY], [TOLD])
        self.assertEqual(rows[2][8:], [2, 0, 1, 0, 1, 1, 1, 0, 1])
        self.assertEqual(rows[3], [1, 2, 1, 2])
        self.assertEqual(rows[5][8:], [2, 0, 1, 1, 1, 1, 1, 0, 1])


class QuestionsChangeNothing(unittest.TestCase):
    def test_each(self):
        calls = ChainModel(4, [(0, 1, 2), (1, 2, Fraction(3, 7)), (2, 0, 1), (2, 3, 5), (3, 0, 1)]).calls()
        asked = [[STEADY], [TREES, 2], time(0, [3]), chance(0, [2], [3]), [AFTER, 1, 5], [EVEN], [TOLD]]
        refused = [[TREES, 4], time(0, [4]), time(1, []), chance(0, [1], [1]), [AFTER, 0, 13], [RATE, 1, 1, 0, 1]]
        rows = answered(*calls, *asked, *refused, *asked)[len(calls):]
        self.assertEqual(rows[:7], rows[13:])
        self.assertEqual(rows[7:13], [[-1], [-2], [-8], [-2], [-1], [-4]])

    def test_places(self):
        self.assertEqual([CHAIN, RATE, STEADY, TREES, TIME, CHANCE, AFTER, EVEN, TOLD, COPY], list(range(8, 18)))


if __name__ == "__main__":
    unittest.main()
