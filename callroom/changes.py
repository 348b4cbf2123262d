"""The calls that change the room or the chain."""

from callroom.board import Chain, room_of_rates
from callroom.forms import MOST_LINES, are_within
from callroom.refusals import OUT_OF_RANGE

MOST_STATES = 6
RATE_NUM = 1000000
RATE_DEN = 1000


def room_answer(board, numbers):
    """Place 0: the room is as told."""
    lines = numbers[0]
    ranges = [
        (1, MOST_LINES), (1, lines),
        (1, RATE_NUM), (1, RATE_DEN), (1, RATE_NUM), (1, RATE_DEN), (0, RATE_NUM), (1, RATE_DEN),
    ]
    if not are_within(numbers, ranges):
        return [OUT_OF_RANGE]
    board.room = room_of_rates(lines, numbers[1], numbers[2:])
    return [0]


def chain_answer(board, numbers):
    """Place 8: the chain has so many states, and all rates are 0."""
    if not are_within(numbers, [(2, MOST_STATES)]):
        return [OUT_OF_RANGE]
    board.chain = Chain(numbers[0])
    return [0]
