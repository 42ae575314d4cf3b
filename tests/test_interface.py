import unittest

import loopclaimsdesk
from loopclaimsdesk.keeping import answers
from tests.helper import CHECK, TRIM, claims, holds, loop, shown

LINE = (loop(2, [1, 1, 0, 0, 9, 1, 0, 1, 1, 1, 2])
        + claims([-2, 1, 1, 0], [1, 0, 0, 10], [-1, 0, 0, 0], [0, 1, 2, 2, 0])
        + CHECK + shown(0, 1) + holds(3, 7) + holds(3) + shown(1, 9) + TRIM)
TOLD = [1, 1, 1, 4, 1, 1, 4, 1, 1, 4, 1, 2, 0, 0, 1, -5, 1, -2, 5, 4, 0, 1, 2, 3]


class Unchanging(list):
    """A list that tells, if anything is done to change it."""

    def refuse(self, *args):
        raise AssertionError("changed")

    append = extend = insert = pop = remove = clear = sort = reverse = refuse
    __setitem__ = __delitem__ = __iadd__ = __imul__ = refuse


class Answers(unittest.TestCase):
    def test_how_many_numbers_stand_ahead_of_each_answer(self):
        self.assertEqual(answers(CHECK), [1, 1])
        self.assertEqual(answers(TRIM), [1, 0])
        self.assertEqual(answers(shown(0, 0)), [1, -3])
        self.assertEqual(answers(claims([1, 0, 5]) + holds(6)), [1, 1, 2, 0, 0])

    def test_one_behind_another(self):
        self.assertEqual(answers(list(LINE)), TOLD)

    def test_forty_calls(self):
        self.assertEqual(answers(claims([1, 0, 5]) + CHECK * 39), [1, 1] + [1, 1] * 39)

    def test_longest_lists_are_gone_through(self):
        long = [0, 1, 100] + [1] * 100 + [1, 50] + [0] * 50 + [2, 10] + [0] * 10
        self.assertEqual(answers(long + CHECK), [1, -1, 1, -1, 1, -5, 1, 1])

    def test_refused_rows_are_passed_over(self):
        # What's in a refused row is not taken for calls.
        self.assertEqual(answers([0, 9, 2, 4, 4] + [1, 3, 4, 4, 4] + [2, 0] + [0, 1, 0] + TRIM),
                         [1, -2, 1, -1, 1, -5, 1, -1, 1, 0])

    def test_gives_back_a_list_of_whole_numbers(self):
        told = answers(list(LINE))
        self.assertIs(told.__class__, list)
        for number in told:
            self.assertIs(number.__class__, int)

    def test_what_is_handed_in_stays(self):
        calls = Unchanging(LINE)
        self.assertEqual(answers(calls), TOLD)
        self.assertEqual(calls, LINE)

    def test_nothing_is_kept(self):
        calls = list(LINE)
        first = answers(calls)
        first.append(7)
        self.assertEqual(answers(calls), TOLD)
        self.assertEqual(answers(holds(1) + shown(0, 0) + CHECK + TRIM), [1, 1, 1, -3, 1, 1, 1, 0])
        self.assertEqual(answers(calls), TOLD)

    def test_found_by_the_documents_name(self):
        self.assertEqual(loopclaimsdesk.keeping.answers, answers)
