"""What the calls work on: one room and one chain."""

from callroom.ratio import common_divisor, lowest


class Room:
    """A room; its rates are a/scale, s/scale and t/scale, so that all further work is on whole numbers."""

    def __init__(self, lines, takers, a, s, t, scale):
        self.lines = lines
        self.takers = takers
        self.a = a
        self.s = s
        self.t = t
        self.scale = scale


class Chain:
    """A chain of so many states; rates[i][j] is the rate from i to j, as (num, den) in lowest terms."""

    def __init__(self, size):
        self.size = size
        self.rates = [[(0, 1)] * size for i in range(size)]


class Board:
    """The room and the chain, at first as they are before the first call."""

    def __init__(self):
        self.room = Room(1, 1, 1, 1, 0, 1)
        self.chain = Chain(2)


def room_of_rates(lines, takers, rates):
    """The room whose a, s and t are told by rates: num and den of each, in this order."""
    a = rates[0] * rates[3] * rates[5]
    s = rates[2] * rates[1] * rates[5]
    t = rates[4] * rates[1] * rates[3]
    scale = rates[1] * rates[3] * rates[5]
    # Powers of these numbers are built later on, so what they share is worth taking out once.
    divisor = common_divisor(common_divisor(a, s), common_divisor(scale, t))
    return Room(lines, takers, a // divisor, s // divisor, t // divisor, scale // divisor)


def with_lines(room, lines):
    """The same room, with so many lines."""
    return Room(lines, room.takers, room.a, room.s, room.t, room.scale)


def with_takers(room, takers):
    """The same room, with so many takers."""
    return Room(room.lines, takers, room.a, room.s, room.t, room.scale)


def set_rate(chain, i, j, num, den):
    """The chain's rate from i to j is num/den from now on."""
    chain.rates[i][j] = tuple(lowest(num, den))
