"""A chain's rates as whole numbers, and where they lead.

All rates times one scale are whole; a rate of a state to itself is 0.
"""

from callroom.ratio import common_divisor


def common_scale(chain):
    """The least whole number that makes each rate times it whole."""
    scale = 1
    for row in chain.rates:
        for rate in row:
            scale = scale * rate[1] // common_divisor(scale, rate[1])
    return scale


def whole_rates(chain, scale):
    """rates[i][j] is the rate from i to j, times the scale."""
    return [[rate[0] * (scale // rate[1]) for rate in row] for row in chain.rates]


def reached(rates, start, ends):
    """The start, first, and all states one can come to from it without going on from one of the ends."""
    found = [start]
    seen = 0
    while seen < len(found):
        state = found[seen]
        seen = seen + 1
        if state not in ends:
            found.extend([other for other, rate in enumerate(rates[state]) if rate > 0 and other not in found])
    return found


def all_lead_to_all(rates):
    """Whether each state leads to each other one."""
    for state in range(len(rates)):
        if len(reached(rates, state, [])) < len(rates):
            return False
    return True
