"""The long-run shares of a room, as whole weights, and what follows from them.

A fraction that is only weighed against another one stays a pair (num, den), not in lowest terms.
"""

from callroom.ratio import powers


def busy(room, i):
    """How many takers are busy with i calls in the room."""
    return min(i, room.takers)


def waiting(room, i):
    """How many calls wait with i calls in the room."""
    return i - busy(room, i)


def down(room, i):
    """d(i) times the room's scale."""
    return busy(room, i) * room.s + waiting(room, i) * room.t


def weights(room):
    """Whole numbers above 0 that stand to one another as p(0) to p(lines) do.

    The i-th is a to the power of i times d(i + 1) to d(lines), so no step has to divide.
    """
    ups = powers(room.a, room.lines)
    found = [ups[room.lines]]
    downs = 1
    for i in range(room.lines, 0, -1):
        downs = downs * down(room, i)
        found.append(ups[i - 1] * downs)
    found.reverse()
    return found


def weighed_calls(found):
    """The sum of i times the i-th weight."""
    return sum([i * weight for i, weight in enumerate(found)])


def weighed_busy(room, found):
    """The sum of the busy takers' number with i calls times the i-th weight."""
    return sum([busy(room, i) * weight for i, weight in enumerate(found)])


def weighed_waiting(room, found):
    """The sum of the waiting calls' number with i calls times the i-th weight."""
    return sum([waiting(room, i) * weight for i, weight in enumerate(found)])


def lost_share(room, found):
    """The share of calls that are lost."""
    return (found[room.lines], sum(found))


def unserved_share(room, found):
    """The share of calls that no taker ends: the lost ones and those that give up."""
    num = room.a * found[room.lines] + room.t * weighed_waiting(room, found)
    return (num, room.a * sum(found))


def is_at_most(share, n, d):
    """Whether the share, a pair, is at most n/d."""
    return share[0] * d <= n * share[1]
