"""A second way to the answers, by Python's own fractions, and helpers to write calls and read answers."""

from fractions import Fraction

from callroom.room import answers

FAR = 10 ** 18

(ROOM, SHARES, LOST, MEANS, TAKERS, LINES, LOSS, BALANCE, CHAIN,
 RATE, STEADY, TREES, TIME, CHANCE, AFTER, EVEN, TOLD, COPY) = range(18)


def answered(*calls):
    """The answer of each call; a call is a list of its place, its numbers and its counted lists."""
    flat = answers([number for call in calls for number in call])
    found = []
    while flat:
        count = flat[0]
        found.append(flat[1:1 + count])
        flat = flat[1 + count:]
    return found


def last(*calls):
    return answered(*calls)[-1]


def balance(row):
    return [BALANCE, len(row)] + list(row)


def time(i, states):
    return [TIME, i, len(states)] + list(states)


def chance(i, states, others):
    return [CHANCE, i, len(states)] + list(states) + [len(others)] + list(others)


def flat_fractions(values):
    found = []
    for value in values:
        value = Fraction(value)
        found += [value.numerator, value.denominator]
    return found


class Model:
    """The room by the document's words."""

    def __init__(self, lines, takers, a, s, t):
        self.lines, self.takers = lines, takers
        self.a, self.s, self.t = Fraction(a), Fraction(s), Fraction(t)
        self.found = None

    def call(self):
        return [ROOM, self.lines, self.takers] + flat_fractions([self.a, self.s, self.t])

    def down(self, i):
        taken = min(i, self.takers)
        return taken * self.s + (i - taken) * self.t

    def shares(self):
        if self.found is None:
            found = [Fraction(1)]
            for i in range(self.lines):
                found.append(found[i] * self.a / self.down(i + 1))
            total = sum(found)
            self.found = [value / total for value in found]
        return self.found

    def mean(self, number):
        return sum(number(i) * p for i, p in enumerate(self.shares()))

    def waiting(self):
        return self.mean(lambda i: max(0, i - self.takers))

    def lost(self):
        p = self.shares()
        gave_up = self.t * self.waiting() / self.a
        return [p[-1], sum(p[self.takers:self.lines]), gave_up, p[-1] + gave_up]

    def means(self):
        calls = self.mean(lambda i: i)
        let_in = self.a * (1 - self.shares()[-1])
        return [calls, self.mean(lambda i: min(i, self.takers)), self.waiting(), let_in, calls / let_in]

    def least(self, rooms, share, n, d):
        before = Fraction(1)
        for number, room in rooms:
            value = room.lost()[share]
            if value <= Fraction(n, d):
                return [number] + flat_fractions([value, before])
            before = value
        return [0]

    def least_takers(self, n, d):
        rooms = [(k, Model(self.lines, k, self.a, self.s, self.t)) for k in range(1, self.lines + 1)]
        return self.least(rooms, 3, n, d)

    def least_lines(self, n, d):
        rooms = [(k, Model(k, self.takers, self.a, self.s, self.t)) for k in range(self.takers, 25)]
        return self.least(rooms, 0, n, d)

    def loss(self, k):
        x, value = self.a / self.s, Fraction(1)
        for step in range(k):
            value = x * value / (step + 1 + x * value)
        return value


def models():
    """Rooms of all the edges: 1 line and 24, 1 taker and as many as lines, no giving up and some."""
    found = []
    for lines, takers in [(1, 1), (2, 1), (2, 2), (5, 1), (5, 3), (5, 5), (24, 1), (24, 7), (24, 24)]:
        for a, s, t in [(1, 1, 0), (5, 1, Fraction(1, 2)), (Fraction(7, 1000), Fraction(3, 4), Fraction(11, 9)),
                        (1000000, Fraction(1, 1000), 1000000), (Fraction(1, 1000), 1000000, 0),
                        (Fraction(999983, 997), Fraction(999979, 991), Fraction(999961, 983))]:
            found.append(Model(lines, takers, a, s, t))
    return found
