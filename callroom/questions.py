"""The questions of the room, which change nothing."""

from callroom.board import with_lines, with_takers
from callroom.forms import MOST_LINES, are_within
from callroom.longrun import down, is_at_most, lost_share, unserved_share
from callroom.longrun import weighed_busy, weighed_calls, weighed_waiting, weights
from callroom.ratio import lowest, parts_of
from callroom.refusals import LIST_NOT_AS_TOLD, OUT_OF_RANGE

MOST_SHARE_DEN = 1000000000
MOST_LIST_DEN = 1000000000000000000


def shares_answer(room):
    """Place 1: p(0) to p(lines)."""
    found = weights(room)
    return parts_of(found, sum(found))


def lost_answer(room):
    """Place 2: the shares of calls that are lost, wait, give up, and that no taker ends."""
    found = weights(room)
    total = sum(found)
    waits = sum(found[room.takers:room.lines])
    unserved = unserved_share(room, found)
    answer = lowest(found[room.lines], total)
    answer.extend(lowest(waits, total))
    answer.extend(lowest(room.t * weighed_waiting(room, found), room.a * total))
    answer.extend(lowest(unserved[0], unserved[1]))
    return answer


def means_answer(room):
    """Place 3: the means of calls, busy takers and waiting calls; the rate let in; the mean stay."""
    found = weights(room)
    total = sum(found)
    let_in = room.a * (total - found[room.lines])
    answer = lowest(weighed_calls(found), total)
    answer.extend(lowest(weighed_busy(room, found), total))
    answer.extend(lowest(weighed_waiting(room, found), total))
    answer.extend(lowest(let_in, room.scale * total))
    answer.extend(lowest(weighed_calls(found) * room.scale, let_in))
    return answer


def is_share(numbers):
    """Whether n and d are in their ranges."""
    return are_within(numbers, [(0, numbers[1]), (1, MOST_SHARE_DEN)])


def least_answer(least, share, before):
    """The least number that is enough, the share with it, and the share with one fewer."""
    answer = [least]
    answer.extend(lowest(share[0], share[1]))
    answer.extend(lowest(before[0], before[1]))
    return answer


def takers_answer(room, numbers):
    """Place 4: the fewest takers with which at most n/d of the calls are ended by no taker."""
    if not is_share(numbers):
        return [OUT_OF_RANGE]
    before = (1, 1)
    for takers in range(1, room.lines + 1):
        tried = with_takers(room, takers)
        share = unserved_share(tried, weights(tried))
        if is_at_most(share, numbers[0], numbers[1]):
            return least_answer(takers, share, before)
        before = share
    return [0]


def lines_answer(room, numbers):
    """Place 5: the fewest lines with which at most n/d of the calls are lost."""
    if not is_share(numbers):
        return [OUT_OF_RANGE]
    before = (1, 1)
    for lines in range(room.takers, MOST_LINES + 1):
        tried = with_lines(room, lines)
        share = lost_share(tried, weights(tried))
        if is_at_most(share, numbers[0], numbers[1]):
            return least_answer(lines, share, before)
        before = share
    return [0]


def loss_answer(room, numbers):
    """Place 6: B(k), step by step from B(0) on."""
    if not are_within(numbers, [(0, MOST_LINES)]):
        return [OUT_OF_RANGE]
    num = 1
    den = 1
    for k in range(numbers[0]):
        num = room.a * num
        den = (k + 1) * room.s * den + num
    return lowest(num, den)


def is_list_of_shares(room, row):
    """Whether the row holds lines + 1 fractions."""
    if len(row) != 2 * (room.lines + 1):
        return False
    dens = row[1::2]
    return min(dens) >= 1 and max(dens) <= MOST_LIST_DEN


def has_sum_one(nums, dens):
    """Whether the fractions' sum is 1."""
    total_num = 0
    total_den = 1
    for num, den in zip(nums, dens):
        total_num = total_num * den + num * total_den
        total_den = total_den * den
    return total_num == total_den


def balance_answer(room, row):
    """Place 7: whether the row's fractions are the room's shares, and if not, why."""
    if not is_list_of_shares(room, row):
        return [LIST_NOT_AS_TOLD]
    nums = row[0::2]
    dens = row[1::2]
    for i in range(room.lines):
        if nums[i] * dens[i + 1] * room.a != nums[i + 1] * dens[i] * down(room, i + 1):
            return [1, i]
    if not has_sum_one(nums, dens):
        return [2]
    return [0]
