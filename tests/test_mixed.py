"""Calls of the room and of the chain, mixed in one list, against the second reckoning."""

import unittest
from itertools import product
from random import Random

from callroom.room import answers
from chain_model import Desk, flat_call
from model import (AFTER, BALANCE, CHAIN, CHANCE, COPY, EVEN, FAR, LINES, LOSS, LOST, MEANS, RATE, ROOM, SHARES, STEADY,
                   TAKERS, TIME, TOLD, TREES)

PLACES = [ROOM, SHARES, LOST, MEANS, TAKERS, LINES, LOSS, BALANCE, CHAIN, STEADY, TREES, TIME, CHANCE, AFTER, EVEN, TOLD,
          COPY] + [RATE] * 20
DENS = [1, 2, 3, 7, 30, 997, 1000]
NUMS = [1, 2, 5, 12, 999983, 10 ** 6]


class Maker:
    """Makes calls that are mostly in order, and now and then out of a range or with a wrong list."""

    def __init__(self, seed):
        self.pick = Random(seed)
        self.desk = Desk()
        self.in_lists = 0

    def number(self, low, high):
        if self.pick.randrange(30) == 0:
            return self.pick.choice((low - 1, high + 1, -FAR, FAR))
        return self.pick.choice((low, high, self.pick.randint(low, max(low, high))))

    def rate(self, nums):
        return [self.pick.choice(nums), self.pick.choice(DENS)]

    def state(self):
        return self.number(0, self.desk.chain.size - 1)

    def states(self, count):
        size = self.desk.chain.size
        found = self.pick.sample(range(size), min(size, count))
        if self.pick.randrange(20) == 0:
            found.append(self.number(-1, size))
        return found

    def two_lists(self):
        both = self.states(self.pick.choice((1, 2, 2, 3)))
        cut = self.pick.randrange(len(both) + 1)
        return [both[:cut], both[cut:]]

    def room(self):
        lines = self.number(1, 24) if self.pick.randrange(3) == 0 else self.number(1, 5)
        return [lines, self.number(1, max(1, min(24, lines)))] + self.rate(NUMS) + self.rate(NUMS) + self.rate([0] + NUMS)

    def shares(self):
        room = self.desk.room
        row = self.desk.tell(SHARES, [], [])
        if max(row) > FAR or room.lines > 8:
            row = [1, room.lines + 1] * (room.lines + 1)
        if self.pick.randrange(4) == 0:
            row[self.pick.randrange(len(row))] = self.number(0, 5)
        return row

    def numbers(self, place):
        if place == ROOM:
            return self.room()
        if place in (TAKERS, LINES):
            d = self.number(1, self.pick.choice((10, 10 ** 9)))
            return [self.number(0, max(0, d)), d]
        if place == RATE:
            return [self.state(), self.state()] + self.rate([0, 0] + NUMS)
        if place in (TREES, TIME, CHANCE):
            return [self.state()]
        if place == AFTER:
            return [self.state(), self.number(0, 12)]
        return {LOSS: [self.number(0, 24)], CHAIN: [self.number(2, 6)]}.get(place, [])

    def lists(self, place):
        if place == BALANCE:
            return [self.shares()]
        if place == TIME:
            return [self.states(self.pick.choice((0, 1, 1, 2, 3)))]
        return self.two_lists() if place == CHANCE else []

    def call(self):
        place = self.pick.choice(PLACES)
        numbers, lists = self.numbers(place), self.lists(place)
        self.in_lists += sum(len(row) for row in lists)
        if self.in_lists > 1000:
            place, numbers, lists = TOLD, [], []
        return place, numbers, lists, self.desk.answer(place, numbers, lists)


def made(seed, count):
    """A list of so many calls, and the answers to it by the second reckoning."""
    maker = Maker(seed)
    calls, expected, seen = [], [], []
    for k in range(count):
        place, numbers, lists, answer = maker.call()
        calls += flat_call(place, numbers, lists)
        expected += [len(answer)] + answer
        seen.append((place, answer[0] if len(answer) == 1 else 0))
    return calls, expected, seen


class Mixed(unittest.TestCase):
    def test_lists_of_up_to_200_calls(self):
        kinds = set()
        for seed in range(40):
            calls, expected, seen = made(seed, 200 if seed < 30 else 5 * (seed - 29))
            handed = list(calls)
            self.assertEqual(answers(handed), expected, seed)
            self.assertEqual(handed, calls)
            self.assertEqual(answers(handed), expected, seed)
            kinds |= set(seen)
        due = {(place, 0) for place in range(18)}
        due |= {(place, -1) for place in (ROOM, TAKERS, LINES, LOSS, CHAIN, RATE, TREES, TIME, CHANCE, AFTER)}
        due |= {(place, -2) for place in (BALANCE, TIME, CHANCE)} | {(RATE, -4), (COPY, -6)}
        due |= {(place, -8) for place in (STEADY, TIME, CHANCE, AFTER, EVEN)}
        self.assertEqual(due - kinds, set())

    def test_one_call_is_as_if_for_the_first_time(self):
        calls = made(7, 200)[0]
        alone = answers([TOLD])
        answers(calls)
        self.assertEqual(answers([TOLD]), alone)

    def test_whole_numbers_in_a_list(self):
        found = answers(made(8, 200)[0])
        self.assertIs(type(found), list)
        self.assertEqual({type(number) for number in found}, {int})

    def test_full_chain_of_6_states(self):
        calls = [(CHAIN, [6])]
        for i, j in product(range(6), repeat=2):
            if i != j:
                calls.append((RATE, [i, j, 999983 - 7 * i - 41 * j, 953 + 7 * i + j]))
        asked = [(AFTER, [0, 12]), (STEADY, []), (EVEN, [])] + [(TREES, [i]) for i in range(6)]
        desk, expected = Desk(), []
        for place, numbers in calls + asked:
            answer = desk.answer(place, numbers, [])
            expected += [len(answer)] + answer
        handed = [number for place, numbers in calls + asked * 18 for number in flat_call(place, numbers, [])]
        made_by = 2 * len(calls)
        self.assertEqual(answers(handed), expected[:made_by] + expected[made_by:] * 18)


if __name__ == "__main__":
    unittest.main()
