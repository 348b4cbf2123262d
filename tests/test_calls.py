"""The form of the calls, what changes, the refusals, and the interface."""

import contextlib
import io
import unittest

from callroom.board import Board
from callroom.room import answers, call_answer
from model import (AFTER, BALANCE, CHAIN, CHANCE, COPY, EVEN, FAR, LINES, LOSS, LOST, MEANS, RATE, ROOM, SHARES, STEADY,
                   TAKERS, TIME, TOLD, TREES, Model, answered, balance, chance, flat_fractions, last, time)

GOOD_ROOM = [ROOM, 5, 3, 5, 2, 3, 4, 1, 7]


def as_it_is(board):
    room = board.room
    return (room.lines, room.takers, room.a, room.s, room.t, room.scale, board.chain.size,
            [list(row) for row in board.chain.rates])


def board_after(*calls):
    board = Board()
    for rows in calls:
        assert call_answer(board, rows) == [0]
    return board


class BeforeTheFirstCall(unittest.TestCase):
    def test_room(self):
        asked = [[SHARES], [LOST], [MEANS], [LINES, 1, 1], [LOSS, 1], balance([1, 2, 1, 2])]
        self.assertEqual(answered(*asked), answered([ROOM, 1, 1, 1, 1, 1, 1, 0, 1], *asked)[1:])
        self.assertEqual(last([SHARES]), [1, 2, 1, 2])
        self.assertEqual(last([MEANS]), [1, 2, 1, 2, 0, 1, 1, 2, 1, 1])

    def test_giving_up_is_0(self):
        # With one line no call ever waits, so t is seen only where more lines are tried.
        self.assertEqual(last([LINES, 1, 3]), [2, 1, 3, 1, 2])

    def test_chain(self):
        board = Board()
        self.assertEqual(board.chain.size, 2)
        self.assertEqual(board.chain.rates, [[(0, 1)] * 2] * 2)


class Changes(unittest.TestCase):
    def test_room_answers_0_and_is_the_room(self):
        rows = answered(GOOD_ROOM, [SHARES], [ROOM, 1, 1, 2, 1, 1, 1, 0, 1], [SHARES])
        self.assertEqual(rows, [[0], flat_fractions(Model(5, 3, "5/2", "3/4", "1/7").shares()), [0], [1, 3, 2, 3]])

    def test_room_at_the_ends_of_its_ranges(self):
        low = [ROOM, 1, 1, 1, 1, 1, 1, 0, 1]
        high = [ROOM, 24, 24, 1000000, 1000, 1000000, 1000, 1000000, 1000]
        self.assertEqual(answered(low, high, low), [[0]] * 3)
        for k in range(1, 9):
            call = [ROOM, 24] + low[2:]
            call[k] = high[k]
            self.assertEqual(last(call), [0])

    def test_chain_answers_0(self):
        for size in range(2, 7):
            self.assertEqual(last([CHAIN, size]), [0])

    def test_chain_has_so_many_states_and_all_rates_0(self):
        for size in range(2, 7):
            board = board_after([[CHAIN, 3]], [[CHAIN, size]])
            self.assertEqual(board.chain.size, size)
            self.assertEqual(board.chain.rates, [[(0, 1)] * size] * size)

    def test_chain_puts_rates_to_0_again(self):
        board = Board()
        board.chain.rates[0][1] = (5, 3)
        self.assertEqual(board.chain.rates[1], [(0, 1), (0, 1)])
        self.assertEqual(call_answer(board, [[CHAIN, 2]]), [0])
        self.assertEqual(board.chain.rates, [[(0, 1)] * 2] * 2)

    def test_room_and_chain_leave_one_another(self):
        board = board_after([GOOD_ROOM], [[CHAIN, 5]])
        self.assertEqual(as_it_is(board)[:2], (5, 3))
        self.assertEqual(call_answer(board, [[ROOM, 2, 1, 1, 1, 1, 1, 0, 1]]), [0])
        self.assertEqual(board.chain.size, 5)
        self.assertEqual(answered([CHAIN, 6], [SHARES], [CHAIN, 2], [SHARES]), [[0], [1, 2, 1, 2]] * 2)


class Refusals(unittest.TestCase):
    def setUp(self):
        self.board = board_after([GOOD_ROOM], [[CHAIN, 4]])
        self.board.chain.rates[1][2] = (2, 3)
        self.before = as_it_is(self.board)

    def refused(self, number, rows):
        with self.subTest(rows=rows):
            self.assertEqual(call_answer(self.board, rows), [number])
            self.assertEqual(as_it_is(self.board), self.before)

    def refused_in_a_list(self, number, call):
        """The same through the interface: what is asked behind the refused call is as without it."""
        asked = [[SHARES], [LOST], [MEANS], [LINES, 1, 3]]
        with self.subTest(call=call):
            self.assertEqual(answered(GOOD_ROOM, call, *asked), [[0], [number]] + answered(GOOD_ROOM, *asked)[1:])
            self.assertEqual(answered(call, [SHARES]), [[number], [1, 2, 1, 2]])

    def out_of_range(self, good, k, low, high):
        for wrong in (low - 1, high + 1, -FAR, FAR):
            call = list(good)
            call[k] = wrong
            self.refused(-1, [call])
            self.refused_in_a_list(-1, call)

    def test_room(self):
        bounds = [(1, 24), (1, 5), (1, 1000000), (1, 1000), (1, 1000000), (1, 1000), (0, 1000000), (1, 1000)]
        for k, (low, high) in enumerate(bounds):
            self.out_of_range(GOOD_ROOM, k + 1, low, high)
        self.out_of_range([ROOM, 1, 1, 1, 1, 1, 1, 0, 1], 2, 1, 1)
        self.out_of_range([ROOM, 24, 24, 1, 1, 1, 1, 0, 1], 2, 1, 24)

    def test_lines_below_takers(self):
        self.refused(-1, [[ROOM, 2, 3, 1, 1, 1, 1, 0, 1]])

    def test_takers_and_lines(self):
        for place in (TAKERS, LINES):
            self.out_of_range([place, 3, 7], 1, 0, 7)
            self.out_of_range([place, 0, 7], 2, 1, 10 ** 9)
            self.out_of_range([place, 10 ** 9, 10 ** 9], 1, 0, 10 ** 9)
            self.refused(-1, [[place, 3, 2]])
            self.refused(-1, [[place, 0, 0]])
            self.refused(-1, [[place, -1, -1]])
            self.refused(-1, [[place, FAR, FAR]])

    def test_loss(self):
        self.out_of_range([LOSS, 3], 1, 0, 24)

    def test_chain(self):
        self.out_of_range([CHAIN, 3], 1, 2, 6)

    def test_list_of_balance(self):
        good = [1, 6] * 6
        for row in ([], good[:-1], good[:-2], good + [1], good + [1, 6], [1], [1, 6], [1, 2] * 25, [1, 6] * 500):
            self.refused(-2, [[BALANCE], row])
        for row in ([], [1], [1, 2], [1, 2, 1], [1, 2, 1, 2, 1], [1, 2] * 3):
            self.assertEqual(answered(balance(row), [SHARES]), [[-2], [1, 2, 1, 2]])
        for k in range(1, 12, 2):
            for wrong in (0, -1, -6, -FAR, FAR + 1):
                row = list(good)
                row[k] = wrong
                self.refused(-2, [[BALANCE], row])
        for wrong in (0, -1, -FAR):
            self.assertEqual(answered(balance([1, 2, 1, wrong]), [SHARES]), [[-2], [1, 2, 1, 2]])
            self.assertEqual(answered(balance([1, wrong, 1, 2]), [SHARES]), [[-2], [1, 2, 1, 2]])

    def test_list_of_balance_follows_the_room(self):
        row = [1, 6] * 6
        self.assertEqual(answered(balance(row), GOOD_ROOM, balance(row), balance([1, 2, 1, 2])),
                         [[-2], [0], [1, 0], [-2]])

    def test_numerators_may_be_anything(self):
        for number in (-FAR, -1, 0, FAR):
            self.assertNotEqual(last(balance([number, 1, 1, 2])), [-2])

    def test_no_told_form(self):
        self.refused(-9, [])
        self.refused(-9, [[]])
        for place in (-1, 18, -FAR, FAR):
            self.refused(-9, [[place]])
        good = [GOOD_ROOM, [SHARES], [LOST], [MEANS], [TAKERS, 1, 2], [LINES, 1, 2], [LOSS, 1], [CHAIN, 3],
                [RATE, 0, 1, 1, 2], [STEADY], [TREES, 0], [AFTER, 0, 1], [EVEN], [TOLD], [COPY]]
        for first in good:
            self.refused(-9, [first + [1]])
            self.refused(-9, [first, []])
            if len(first) > 1:
                self.refused(-9, [first[:-1]])
        self.refused(-9, [[BALANCE]])
        self.refused(-9, [[BALANCE, 1], [1, 6] * 6])
        self.refused(-9, [[BALANCE], [1, 6] * 6, []])
        for rows in ([], [[1], []], [[1], [2]]):
            self.refused(-9, [[TIME, 0]] + rows)
        for rows in ([], [[1]], [[1], [2], []]):
            self.refused(-9, [[CHANCE, 0]] + rows)
        for first in ([], [0, 0]):
            self.refused(-9, [[TIME] + first, [1]])
            self.refused(-9, [[CHANCE] + first, [1], [2]])

    def test_the_first_told_refusal_is_answered(self):
        self.refused(-9, [[ROOM, 0, 0, 0, 0, 0, 0, -1]])
        self.refused(-9, [[CHAIN, 7], []])
        self.refused(-9, [[BALANCE, 1], [1, 0]])
        self.refused(-9, [[RATE, 9, 9, 0]])
        self.refused(-9, [[TIME, 9], [9], []])
        self.refused(-9, [[CHANCE, 9], [9]])
        self.refused(-1, [[RATE, 4, 4, 1, 1]])
        self.refused(-4, [[RATE, 3, 3, 1, 1]])
        self.refused(-1, [[TIME, 4], [9]])
        self.refused(-2, [[TIME, 0], [9]])
        self.refused(-8, [[TIME, 0], [3]])
        self.refused(-1, [[CHANCE, 4], [3], [3]])
        self.refused(-2, [[CHANCE, 0], [3], [3]])
        self.refused(-8, [[CHANCE, 0], [3], []])

    def test_unknown_place_in_a_list(self):
        self.assertEqual(answered([SHARES], [18]), [[1, 2, 1, 2], [-9]])

    def test_call_cut_short_in_a_list(self):
        self.assertEqual(answered([SHARES], GOOD_ROOM[:-1]), [[1, 2, 1, 2], [-9]])
        self.assertEqual(answered([SHARES], [BALANCE]), [[1, 2, 1, 2], [-9]])


class Interface(unittest.TestCase):
    CALLS = (GOOD_ROOM + [SHARES, LOST, MEANS, TAKERS, 1, 4, LINES, 1, 9, LOSS, 4] + balance([1, 6] * 6)
             + balance([]) + [COPY, STEADY, TREES, 3] + time(0, [5, 4]) + chance(2, [0], [5, 4]) + [AFTER, 1, 12, EVEN]
             + [TOLD, CHAIN, 3, RATE, 1, 2, 6, 4, RATE, 0, 0, 1, 1] + time(1, [2]) + time(0, []) + chance(1, [2], [])
             + chance(1, [], []) + [EVEN, AFTER, 1, 3, CHAIN, 9, ROOM, 1, 1, 1, 1, 1, 1, 0, 0, TOLD])

    def test_several_calls_in_one_list(self):
        self.assertEqual(answers([SHARES, ROOM, 2, 1, 1, 1, 1, 1, 1, 2, LOSS, 0, SHARES, CHAIN, 1, BALANCE, 0, LOSS, 2]),
                         [4, 1, 2, 1, 2, 1, 0, 2, 1, 1, 6, 3, 8, 3, 8, 1, 4, 1, -1, 1, -2, 2, 1, 5])

    def test_several_calls_of_the_chain_in_one_list(self):
        self.assertEqual(answers([RATE, 0, 1, 4, 2, TIME, 0, 1, 1, TIME, 0, 0, CHANCE, 0, 1, 1, 0, CHANCE, 0, 0, 1, 1,
                                  CHANCE, 1, 1, 1, 1, 0, CHANCE, 0, 0, 0, TREES, 1, COPY, STEADY, EVEN, AFTER, 0, 1]),
                         [1, 0, 2, 1, 2, 1, -8, 2, 1, 1, 2, 0, 1, 2, 1, 1, 1, -8, 2, 2, 1, 1, 0, 4, 1, 2, 1, 2, 1, 1,
                          4, 0, 1, 1, 1])

    def test_lists_are_not_taken_for_calls(self):
        self.assertEqual(answered(balance([0, 1, 8, 9]), balance([1, 2, 1, 2]), [LOSS, 0]), [[1, 0], [0], [1, 1]])
        self.assertEqual(answered(time(0, [8, 3]), chance(0, [8, 3], [17]), chance(0, [0], [1]), [TREES, 0]),
                         [[-2], [-2], [1, 1], [0, 1]])

    def test_two_hundred_calls(self):
        calls = []
        for k in range(100):
            calls += [[ROOM, 1 + k % 24, 1, 1, 1, 1, 1, 0, 1], [LOST]]
        lines = [1 + k % 24 for k in range(100)]
        self.assertEqual([row[:2] for row in answered(*calls)[1::2]], [[1, n + 1] for n in lines])

    def test_thousand_numbers_in_lists(self):
        row = flat_fractions(Model(24, 1, 1, 1, 0).shares())
        calls = [[ROOM, 24, 1, 1, 1, 1, 1, 0, 1]] + [balance(row)] * 20
        self.assertEqual(answered(*calls), [[0]] * 21)

    def test_second_time_as_the_first(self):
        first = answers(list(self.CALLS))
        self.assertEqual(answers(list(self.CALLS)), first)
        self.assertEqual(answers([SHARES]), [4, 1, 2, 1, 2])
        first.clear()
        self.assertEqual(answers([SHARES]), [4, 1, 2, 1, 2])

    def test_what_is_handed_in_stays(self):
        handed = list(self.CALLS)
        answers(handed)
        self.assertEqual(handed, self.CALLS)

    def test_what_is_handed_in_is_not_changed_for_a_while_either(self):
        def refuse(*args, **kwargs):
            raise AssertionError("the list handed in was changed")

        names = ["append", "clear", "extend", "insert", "pop", "remove", "reverse", "sort", "__setitem__",
                 "__delitem__", "__iadd__", "__imul__"]
        guarded = type("Guarded", (list,), {name: refuse for name in names})
        self.assertEqual(answers(guarded(self.CALLS)), answers(list(self.CALLS)))

    def test_whole_numbers_in_a_list(self):
        found = answers(list(self.CALLS))
        self.assertIs(type(found), list)
        self.assertEqual({type(number) for number in found}, {int})

    def test_prints_nothing(self):
        out, err = io.StringIO(), io.StringIO()
        with contextlib.redirect_stdout(out), contextlib.redirect_stderr(err):
            answers(list(self.CALLS))
        self.assertEqual((out.getvalue(), err.getvalue()), ("", ""))


if __name__ == "__main__":
    unittest.main()
