"""The calls that change the room or the chain."""

from callroom.board import Chain, room_of_rates, set_rate
from callroom.forms import MOST_LINES, are_within
from callroom.longrun import down
from callroom.refusals import OUT_OF_RANGE, SAME_STATE, TOO_MANY_LINES

MOST_STATES = 6
RATE_NUM = 1000000
RATE_DEN = 1000


def room_answer(board, numbers):
    """Place 0: the room is as told."""
    lines = numbers[0]
    ranges = [
        (1, MOST_LINES), (1, lines),
        (1, RATE_NUM), (1, RATE_DEN), (1, RATE_NUM), (1, RATE_DEN), (0, RATE_NUM), (1, RATE_DEN),
    ]
    if not are_within(numbers, ranges):
        return [OUT_OF_RANGE]
    board.room = room_of_rates(lines, numbers[1], numbers[2:])
    return [0]


def chain_answer(board, numbers):
    """Place 8: the chain has so many states, and all rates are 0."""
    if not are_within(numbers, [(2, MOST_STATES)]):
        return [OUT_OF_RANGE]
    board.chain = Chain(numbers[0])
    return [0]


def rate_answer(board, numbers):
    """Place 9: the rate from i to j is as told."""
    top = board.chain.size - 1
    if not are_within(numbers, [(0, top), (0, top), (0, RATE_NUM), (1, RATE_DEN)]):
        return [OUT_OF_RANGE]
    if numbers[0] == numbers[1]:
        return [SAME_STATE]
    set_rate(board.chain, numbers[0], numbers[1], numbers[2], numbers[3])
    return [0]


def copy_answer(board):
    """Place 17: the chain is the room, with a state for each number of calls in it."""
    room = board.room
    if room.lines + 1 > MOST_STATES:
        return [TOO_MANY_LINES]
    chain = Chain(room.lines + 1)
    for i in range(room.lines):
        set_rate(chain, i, i + 1, room.a, room.scale)
        set_rate(chain, i + 1, i, down(room, i + 1), room.scale)
    board.chain = chain
    return [0]
