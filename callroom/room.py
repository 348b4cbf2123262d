"""The interface: calls in, answers out."""

from callroom.board import Board
from callroom.changes import chain_answer, room_answer
from callroom.forms import has_told_form, length_of, rows_from
from callroom.questions import balance_answer, lines_answer, loss_answer, lost_answer
from callroom.questions import means_answer, shares_answer, takers_answer
from callroom.refusals import NO_TOLD_FORM


def told_call_answer(board, place, numbers, rows):
    """What a call of a told form answers: its place, its numbers, and its lists."""
    if place == 0:
        return room_answer(board, numbers)
    if place == 1:
        return shares_answer(board.room)
    if place == 2:
        return lost_answer(board.room)
    if place == 3:
        return means_answer(board.room)
    if place == 4:
        return takers_answer(board.room, numbers)
    if place == 5:
        return lines_answer(board.room, numbers)
    if place == 6:
        return loss_answer(board.room, numbers)
    if place == 7:
        return balance_answer(board.room, rows[0])
    return chain_answer(board, numbers)


def call_answer(board, rows):
    """What one call, told as its rows, answers; it may change the board."""
    if not has_told_form(rows):
        return [NO_TOLD_FORM]
    return told_call_answer(board, rows[0][0], rows[0][1:], rows[1:])


def answers(calls):
    """The answers to the calls on a new room and chain, each with its count of numbers before it."""
    board = Board()
    found = []
    start = 0
    while start < len(calls):
        rows = rows_from(calls, start)
        answer = call_answer(board, rows)
        found.append(len(answer))
        found.extend(answer)
        start = start + length_of(rows)
    return found
