"""A second way to the answers about chains, and to those of whole lists of calls, by the document's words."""

from fractions import Fraction
from itertools import product
from math import prod
from random import Random

from model import (AFTER, BALANCE, CHAIN, CHANCE, COPY, EVEN, LINES, LOSS, LOST, MEANS, RATE, ROOM, SHARES, STEADY,
                   TAKERS, TIME, TOLD, TREES, Model, flat_fractions)


def solved(rows, gains):
    """The unknowns of the equations rows times unknowns = gains, by Gauss's way."""
    size = len(rows)
    work = [[Fraction(number) for number in row] + [Fraction(gain)] for row, gain in zip(rows, gains)]
    for k in range(size):
        pivot = next(row for row in range(k, size) if work[row][k] != 0)
        work[k], work[pivot] = work[pivot], work[k]
        work[k] = [number / work[k][k] for number in work[k]]
        for other in range(size):
            if other != k:
                factor = work[other][k]
                work[other] = [x - factor * y for x, y in zip(work[other], work[k])]
    return [row[-1] for row in work]


class ChainModel:
    def __init__(self, size, rates=()):
        self.size = size
        self.rates = [[Fraction(0)] * size for i in range(size)]
        for i, j, value in rates:
            self.rates[i][j] = Fraction(value)

    def calls(self):
        """The calls that make this chain, also from one that has been used before."""
        found = [[CHAIN, self.size]]
        for i, j in product(range(self.size), repeat=2):
            if self.rates[i][j] != 0:
                found.append([RATE, i, j] + flat_fractions([self.rates[i][j]]))
        return found

    def left(self, i):
        return sum(self.rates[i])

    def leads(self, ends=()):
        """leads[i][j]: whether a row of rates, one or more, goes from i to j, and out of no state of the ends."""
        found = [[i not in ends and self.rates[i][j] > 0 for j in range(self.size)] for i in range(self.size)]
        for k, i, j in product(range(self.size), repeat=3):
            found[i][j] = found[i][j] or (found[i][k] and found[k][j])
        return found

    def all_lead(self):
        leads = self.leads()
        return all(leads[i][j] for i, j in product(range(self.size), repeat=2) if i != j)

    def shares(self):
        """By the balance of all states but the last, and the sum."""
        rows = []
        for i in range(self.size - 1):
            rows.append([self.rates[j][i] if j != i else -self.left(i) for j in range(self.size)])
        return solved(rows + [[1] * self.size], [0] * (self.size - 1) + [1])

    def steady(self):
        return flat_fractions(self.shares()) if self.all_lead() else [-8]

    def even(self):
        if not self.all_lead():
            return [-8]
        p = self.shares()
        for i, j in product(range(self.size), repeat=2):
            if p[i] * self.rates[i][j] != p[j] * self.rates[j][i]:
                return [0, i, j]
        return [1]

    def comes(self, choice, start, root):
        for step in range(self.size):
            if start == root:
                return True
            start = choice[start]
        return False

    def trees(self, root):
        """By going through all choices of a next state for each other one; a rate of 0 adds nothing."""
        others = [state for state in range(self.size) if state != root]
        nexts = [[j for j in range(self.size) if self.rates[state][j] > 0] for state in others]
        total = Fraction(0)
        for picked in product(*nexts):
            choice = dict(zip(others, picked))
            if all(self.comes(choice, state, root) for state in others):
                total += prod(self.rates[state][choice[state]] for state in others)
        return flat_fractions([total])

    def first_in(self, i, ends, gain, at_end):
        """The one who asks has i in none of the ends."""
        within, leads = self.leads(ends), self.leads()
        inner = [state for state in range(self.size) if state not in ends and (state == i or within[i][state])]
        if any(not any(leads[state][end] for end in ends) for state in inner):
            return [-8]
        rows = [[self.left(state) if state == other else -self.rates[state][other] for other in inner]
                for state in inner]
        gains = [gain + sum(self.rates[state][end] * at_end[end] for end in ends) for state in inner]
        return flat_fractions([solved(rows, gains)[inner.index(i)]])

    def is_list(self, states):
        return all(0 <= state < self.size for state in states) and len(set(states)) == len(states)

    def time(self, i, states):
        if not self.is_list(states):
            return [-2]
        if i in states:
            return [0, 1]
        return self.first_in(i, states, 1, {state: 0 for state in states})

    def chance(self, i, states, others):
        if not (self.is_list(states) and self.is_list(others)) or set(states) & set(others):
            return [-2]
        told = {**{state: 1 for state in states}, **{state: 0 for state in others}}
        if i in told:
            return [told[i], 1]
        return self.first_in(i, states + others, 0, told)

    def after(self, i, k):
        f = max(self.left(state) for state in range(self.size))
        if f == 0:
            return [-8]
        here = [Fraction(int(state == i)) for state in range(self.size)]
        for step in range(k):
            there = [p * (1 - self.left(state) / f) for state, p in enumerate(here)]
            for state, other in product(range(self.size), repeat=2):
                there[other] += here[state] * self.rates[state][other] / f
            here = there
        return flat_fractions(here)


def copied(room):
    rates = [(i, i + 1, room.a) for i in range(room.lines)]
    return ChainModel(room.lines + 1, rates + [(i + 1, i, room.down(i + 1)) for i in range(room.lines)])


class Desk:
    """A room and a chain on which calls are answered: a call is its place, its numbers, and lists."""

    def __init__(self):
        self.room = Model(1, 1, 1, 1, 0)
        self.chain = ChainModel(2)

    def bounds(self, place, numbers):
        state = (0, self.chain.size - 1)
        share = [(0, numbers[1] if len(numbers) > 1 else 0), (1, 10 ** 9)]
        rate, some = [(0, 10 ** 6), (1, 1000)], [(1, 10 ** 6), (1, 1000)]
        return {ROOM: [(1, 24), (1, numbers[0] if numbers else 0)] + some + some + rate, TAKERS: share, LINES: share,
                LOSS: [(0, 24)], CHAIN: [(2, 6)], RATE: [state, state] + rate, TREES: [state], TIME: [state],
                CHANCE: [state], AFTER: [state, (0, 12)]}.get(place, [])

    def answer(self, place, numbers, lists):
        for number, (low, high) in zip(numbers, self.bounds(place, numbers), strict=True):
            if not low <= number <= high:
                return [-1]
        if place in (ROOM, CHAIN, RATE, COPY):
            return self.change(place, numbers)
        return self.tell(place, numbers, lists)

    def change(self, place, numbers):
        if place == ROOM:
            rates = [Fraction(numbers[k], numbers[k + 1]) for k in (2, 4, 6)]
            self.room = Model(numbers[0], numbers[1], *rates)
        if place == CHAIN:
            self.chain = ChainModel(numbers[0])
        if place == RATE:
            if numbers[0] == numbers[1]:
                return [-4]
            self.chain.rates[numbers[0]][numbers[1]] = Fraction(numbers[2], numbers[3])
        if place == COPY:
            if self.room.lines > 5:
                return [-6]
            self.chain = copied(self.room)
        return [0]

    def tell(self, place, numbers, lists):
        room, chain = self.room, self.chain
        return {SHARES: lambda: flat_fractions(room.shares()), LOST: lambda: flat_fractions(room.lost()),
                MEANS: lambda: flat_fractions(room.means()), TAKERS: lambda: room.least_takers(*numbers),
                LINES: lambda: room.least_lines(*numbers), LOSS: lambda: flat_fractions([room.loss(*numbers)]),
                BALANCE: lambda: self.balance(*lists), STEADY: chain.steady, TREES: lambda: chain.trees(*numbers),
                TIME: lambda: chain.time(*numbers, *lists), CHANCE: lambda: chain.chance(*numbers, *lists),
                AFTER: lambda: chain.after(*numbers), EVEN: chain.even, TOLD: self.told}[place]()

    def balance(self, row):
        room = self.room
        if len(row) != 2 * (room.lines + 1) or min(row[1::2]) < 1:
            return [-2]
        p = [Fraction(row[k], row[k + 1]) for k in range(0, len(row), 2)]
        for i in range(room.lines):
            if p[i] * room.a != p[i + 1] * room.down(i + 1):
                return [1, i]
        return [0] if sum(p) == 1 else [2]

    def told(self):
        room = self.room
        rates = flat_fractions(value for row in self.chain.rates for value in row)
        return [room.lines, room.takers] + flat_fractions([room.a, room.s, room.t]) + [self.chain.size] + rates


def flat_call(place, numbers, lists):
    return [place] + numbers + [number for row in lists for number in [len(row)] + row]


RATES = [Fraction(10 ** 6), Fraction(1, 1000), Fraction(1), Fraction(3, 7), Fraction(999983, 997), Fraction(5, 2)]


def chains(seed, count):
    """Chains of 2 to 6 states, with few rates and with many, at the ends of their ranges too."""
    pick = Random(seed)
    found = []
    for k in range(count):
        size, full = 2 + k % 5, pick.choice((2, 4, 6, 9, 10))
        rates = [(i, j, pick.choice(RATES)) for i, j in product(range(size), repeat=2)
                 if i != j and pick.randrange(10) < full]
        found.append(ChainModel(size, rates))
    return found
