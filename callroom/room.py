"""The interface: calls in, answers out."""

from callroom.board import Board
from callroom.chain_questions import after_answer, chance_answer, even_answer, steady_answer
from callroom.chain_questions import time_answer, told_answer, trees_answer
from callroom.changes import chain_answer, copy_answer, rate_answer, room_answer
from callroom.forms import has_told_form, length_of, rows_from
from callroom.questions import balance_answer, lines_answer, loss_answer, lost_answer
from callroom.questions import means_answer, shares_answer, takers_answer
from callroom.refusals import NO_TOLD_FORM

FIRST_CHAIN_PLACE = 8


def room_call_answer(board, place, numbers, rows):
    """What a call of the room answers."""
    if place == 0:
        return room_answer(board, numbers)
    if place == 1:
        return shares_answer(board.room)
    if place == 2:
        return lost_answer(board.room)
    if place == 3:
        return means_answer(board.room)
    if place == 4:
        return takers_answer(board.room, numbers)
    if place == 5:
        return lines_answer(board.room, numbers)
    if place == 6:
        return loss_answer(board.room, numbers)
    return balance_answer(board.room, rows[0])


def chain_call_answer(board, place, numbers, rows):
    """What a call of the chain answers."""
    if place == 8:
        return chain_answer(board, numbers)
    if place == 9:
        return rate_answer(board, numbers)
    if place == 10:
        return steady_answer(board.chain)
    if place == 11:
        return trees_answer(board.chain, numbers)
    if place == 12:
        return time_answer(board.chain, numbers, rows[0])
    if place == 13:
        return chance_answer(board.chain, numbers, rows[0], rows[1])
    if place == 14:
        return after_answer(board.chain, numbers)
    if place == 15:
        return even_answer(board.chain)
    if place == 16:
        return told_answer(board.room, board.chain)
    return copy_answer(board)


def call_answer(board, rows):
    """What one call, told as its rows, answers; it may change the board."""
    if not has_told_form(rows):
        return [NO_TOLD_FORM]
    place = rows[0][0]
    if place < FIRST_CHAIN_PLACE:
        return room_call_answer(board, place, rows[0][1:], rows[1:])
    return chain_call_answer(board, place, rows[0][1:], rows[1:])


def answers(calls):
    """The answers to the calls on a new room and chain, each with its count of numbers before it."""
    board = Board()
    found = []
    start = 0
    while start < len(calls):
        rows = rows_from(calls, start)
        answer = call_answer(board, rows)
        found.append(len(answer))
        found.extend(answer)
        start = start + length_of(rows)
    return found
