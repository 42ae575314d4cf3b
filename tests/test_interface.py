import unittest

import loopclaimsdesk
from loopclaimsdesk.keeping import UnknownCall, answers
from tests.helper import (
    CHECK, HUGE, TRIM, USE, ahead, at_end, broken, claim, claims, goal, holds, loop, run, shown)

# All twelve calls mixed, each of them with what it answers; some of them are refused.
MIXED = [
    (loop(2, [1, 1, 0, 0, 9, 1, 0, 1, 1, 1, 2]), [1]),
    (run(2, 0, 1), [2, 2, 2, 5]),
    (claims([0, 1, 0, 5], [-2, 1, 1, 0], [1, 0, 0, 10], [-1, 0, 0, 0], [0, 1, 2, 2, 0]), [5]),
    (broken(0, 4), [0, 0, 0, 2, 4]),
    (CHECK, [0, 0, 0]),
    (at_end(-1, 0, 0, -10), [1, 1, 5, 1]),
    (TRIM, [4, 1, 2, 3, 4]),
    (shown(1, 9), [-2]),
    (USE, [4, -2, 1, 1, 0, 1, 0, 0, 10, -1, 0, 0, 0, 0, 1, 2, 2, 0]),
    (shown(0, 1), [1, 1, 4, 1]),
    (claim([7]), [-1]),
    (goal(0, 1, 0, 20), [1, 2, 0, 1, 1, 2]),
    (ahead(0, 3), [0, 0, 1, 2, 2, 0]),
    (ahead(0, 4), [-3]),
    (holds(3), [-5]),
    (holds(3, 7), [0, 0]),
    (goal(1, 0, 3, 0), [-1]),
    (broken(0, 11), [-7]),
    (broken(4, 0), [-5]),
    (run(201), [-3]),
    (run(20, 0, 0), [0, 10, 10, 20, 1, 1, 1, 1]),
    (loop(5, []), [-2]),
    (TRIM, [4, 0, 1, 2, 3]),
    (loop(1, [2, 0, 1, 0, 1, 1, 0, 0, 9, 0, 5]), [2]),
    (at_end(0, 0, 0), [-4]),
    (at_end(0, 0), [-1]),
    (USE, [0]),
    (CHECK, [1]),
]


def put_together(rows):
    """The calls one behind another; and the answers, each with how many numbers it has before it."""
    calls = []
    told = []
    for call, answer in rows:
        calls += call
        told += [len(answer)] + answer
    return calls, told


LINE, TOLD = put_together(MIXED)


class Unchanging(list):
    """A list that tells, if anything is done to change it."""

    def refuse(self, *args):
        raise AssertionError("changed")

    append = extend = insert = pop = remove = clear = sort = reverse = refuse
    __setitem__ = __delitem__ = __iadd__ = __imul__ = refuse


class Answers(unittest.TestCase):
    def test_how_many_numbers_stand_ahead_of_each_answer(self):
        self.assertEqual(answers(CHECK), [1, 1])
        self.assertEqual(answers(TRIM), [1, 0])
        self.assertEqual(answers(shown(0, 0)), [1, -3])
        self.assertEqual(answers(claims([1, 0, 5]) + holds(6)), [1, 1, 2, 0, 0])
        self.assertEqual(answers(USE), [1, 0])
        self.assertEqual(answers(broken(0, 0)), [1, 1])
        self.assertEqual(answers(goal(0, 0, 0)), [2, 1, 0])
        self.assertEqual(answers(at_end(0, 0, 0)), [1, -4])
        self.assertEqual(answers(run(3, -7)), [3, 0, 0, -7])
        self.assertEqual(answers(claims([1, 0, -5]) + ahead(0, 0)), [1, 1, 4, 0, 1, 0, -5])

    def test_all_twelve_one_behind_another(self):
        self.assertEqual({call[0] for call, answer in MIXED}, set(range(12)))
        self.assertEqual(answers(list(LINE)), TOLD)

    def test_forty_calls(self):
        self.assertEqual(answers(claims([1, 0, 5]) + CHECK * 39), [1, 1] + [1, 1] * 39)
        calls, told = put_together(MIXED + MIXED[:12])
        self.assertEqual(len(MIXED + MIXED[:12]), 40)
        self.assertEqual(answers(calls), told)

    def test_longest_list(self):
        calls = ([0, 1, 100] + [1] * 100) * 40
        self.assertEqual(len(calls), 4120)
        self.assertEqual(answers(calls), [1, -1] * 40)

    def test_longest_rows_are_gone_through(self):
        long = [0, 1, 100] + [1] * 100 + [1, 50] + [0] * 50 + [2, 10] + [0] * 10
        long += [8, 10] + [0] * 10 + [9, 10] + [0] * 10 + [10, 0, 10] + [0] * 10
        self.assertEqual(answers(long + CHECK), [1, -1, 1, -1, 1, -5, 1, -1, 1, -1, 1, -5, 1, 1])

    def test_longest_answer(self):
        four = loop(4, [1, 0, 1, 0, 0, 1, 1, 0, 1, 2, 0, 1, 3, 0])
        told = answers(four + claims(*[[5, -5, 5, -5, 2, 6, 5]] * 6) + USE)
        self.assertEqual(told, [1, 1, 1, 6, 43, 6] + [5, -5, 5, -5, 2, 6, 5] * 6)

    def test_refused_rows_are_passed_over(self):
        # What's in a refused row is not taken for calls.
        self.assertEqual(answers([0, 9, 2, 4, 4] + [1, 3, 4, 4, 4] + [2, 0] + [0, 1, 0] + TRIM),
                         [1, -2, 1, -1, 1, -5, 1, -1, 1, 0])
        rows = [8, 2, 4, 4] + [9, 3, 4, 4, 4] + [10, 201, 2, 4, 4] + [10, 1, 0] + [8, 0] + [9, 0]
        self.assertEqual(answers(rows + TRIM), [1, -1, 1, -1, 1, -3, 1, -5, 1, -1, 1, -1, 1, 0])

    def test_refused_numbers_are_passed_over(self):
        for number in (HUGE, -HUGE):
            self.assertEqual(answers(shown(number, 4) + broken(number, 4) + ahead(number, 4) + run(number, 4) + CHECK),
                             [1, -2, 1, -5, 1, -2, 1, -3, 1, 1])

    def test_gives_back_a_list_of_whole_numbers(self):
        told = answers(list(LINE))
        self.assertIs(told.__class__, list)
        for number in told:
            self.assertIs(number.__class__, int)

    def test_what_is_handed_in_stays(self):
        calls = Unchanging(LINE)
        self.assertEqual(answers(calls), TOLD)
        self.assertEqual(calls, LINE)

    def test_nothing_is_kept(self):
        calls = list(LINE)
        first = answers(calls)
        first.append(7)
        self.assertEqual(answers(calls), TOLD)
        self.assertEqual(answers(holds(1) + shown(0, 0) + CHECK + TRIM), [1, 1, 1, -3, 1, 1, 1, 0])
        self.assertEqual(answers(USE + run(1, 4) + ahead(0, 0) + at_end(0, 0, 0) + broken(-62, 62) + goal(1, 0, 9)),
                         [1, 0, 3, 0, 0, 4, 1, -3, 1, -4, 1, 1, 1, 0])
        self.assertEqual(answers(calls), TOLD)

    def test_another_call_number(self):
        for number in (-1, 12):
            self.assertRaises(UnknownCall, answers, [number, 0, 0])

    def test_found_by_the_documents_name(self):
        self.assertEqual(loopclaimsdesk.keeping.answers, answers)
