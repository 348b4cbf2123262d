"""The questions of the chain, which change nothing."""

from callroom.forms import are_within
from callroom.matrix import first_unknown, leaving, tree_weight, tree_weights
from callroom.ratio import lowest, parts_of, powers
from callroom.refusals import LIST_NOT_AS_TOLD, NO_SUCH_VALUE, OUT_OF_RANGE
from callroom.ways import all_lead_to_all, common_scale, reached, whole_rates

MOST_STEPS = 12


def steady_answer(chain):
    """Place 10: the long-run shares."""
    rates = whole_rates(chain, common_scale(chain))
    if not all_lead_to_all(rates):
        return [NO_SUCH_VALUE]
    found = tree_weights(rates)
    return parts_of(found, sum(found))


def trees_answer(chain, numbers):
    """Place 11: the sum of the trees to i."""
    if not are_within(numbers, [(0, chain.size - 1)]):
        return [OUT_OF_RANGE]
    scale = common_scale(chain)
    # A tree is a product of as many rates as there are other states, each with the scale in it.
    scales = powers(scale, chain.size - 1)
    return lowest(tree_weight(whole_rates(chain, scale), numbers[0]), scales[chain.size - 1])


def is_list_of_states(chain, row):
    """Whether the row holds states alone, each once at most."""
    # A longer row can't be as told, and is not worth counting through.
    if len(row) > chain.size:
        return False
    for number in row:
        if number < 0 or number >= chain.size or row.count(number) > 1:
            return False
    return True


def all_come_to_ends(rates, states, ends):
    """Whether from each of the states one can come to one of the ends."""
    for state in states:
        if not any([end in reached(rates, state, ends) for end in ends]):
            return False
    return True


def first_in_answer(rates, start, ends, gains):
    """What is told at the start, if in each state but the ends what is told there, times the rate at which it's left,
    is its gain and the sum of the rates to the others but the ends times what is told there.
    """
    # A state that one never comes to may have no way to the ends, and then no value: it must stay out.
    inner = [state for state in reached(rates, start, ends) if state not in ends]
    if not all_come_to_ends(rates, inner, ends):
        return [NO_SUCH_VALUE]
    value = first_unknown(leaving(rates, inner), [gains[state] for state in inner])
    return lowest(value[0], value[1])


def time_answer(chain, numbers, row):
    """Place 12: the mean time till one, from i on, is first in a state of the row."""
    if not are_within(numbers, [(0, chain.size - 1)]):
        return [OUT_OF_RANGE]
    if not is_list_of_states(chain, row):
        return [LIST_NOT_AS_TOLD]
    if numbers[0] in row:
        return [0, 1]
    scale = common_scale(chain)
    # With the scale in all rates, it stands in the place of 1 too.
    return first_in_answer(whole_rates(chain, scale), numbers[0], row, [scale] * chain.size)


def chance_answer(chain, numbers, row, others):
    """Place 13: the chance that one, from i on, comes to a state of the row before any of the others."""
    if not are_within(numbers, [(0, chain.size - 1)]):
        return [OUT_OF_RANGE]
    ends = row + others
    if not is_list_of_states(chain, ends):
        return [LIST_NOT_AS_TOLD]
    if numbers[0] in row:
        return [1, 1]
    if numbers[0] in others:
        return [0, 1]
    rates = whole_rates(chain, common_scale(chain))
    gains = [sum([rates[state][end] for end in row]) for state in range(chain.size)]
    return first_in_answer(rates, numbers[0], ends, gains)


def stepped(rates, fastest, here):
    """The weights of the states one step on; their sum is fastest times what it was."""
    found = [weight * (fastest - sum(row)) for weight, row in zip(here, rates)]
    for weight, row in zip(here, rates):
        found = [before + weight * rate for before, rate in zip(found, row)]
    return found


def after_answer(chain, numbers):
    """Place 14: the chances to be in each state after k steps from i."""
    if not are_within(numbers, [(0, chain.size - 1), (0, MOST_STEPS)]):
        return [OUT_OF_RANGE]
    rates = whole_rates(chain, common_scale(chain))
    fastest = max([sum(row) for row in rates])
    if fastest == 0:
        return [NO_SUCH_VALUE]
    here = [0] * chain.size
    here[numbers[0]] = 1
    for step in range(numbers[1]):
        here = stepped(rates, fastest, here)
    return parts_of(here, sum(here))


def even_answer(chain):
    """Place 15: whether between each two states as much goes the one way as the other."""
    rates = whole_rates(chain, common_scale(chain))
    if not all_lead_to_all(rates):
        return [NO_SUCH_VALUE]
    found = tree_weights(rates)
    for i in range(chain.size):
        for j in range(i + 1, chain.size):
            if found[i] * rates[i][j] != found[j] * rates[j][i]:
                return [0, i, j]
    return [1]


def told_answer(room, chain):
    """Place 16: the room and the chain as they are."""
    answer = [room.lines, room.takers]
    for rate in (room.a, room.s, room.t):
        answer.extend(lowest(rate, room.scale))
    answer.append(chain.size)
    for row in chain.rates:
        for pair in row:
            answer.extend(pair)
    return answer
