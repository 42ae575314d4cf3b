import unittest
from unittest import mock

from loopclaimsdesk.reading import whole_loop
from loopclaimsdesk.rounds import BEYOND, CHOSEN_STILL, OVER, run_from
from tests.helper import CHECK, HUGE, TRIM, ask, branch, claims, holds, last, loops, run, same

# While 0 is at most 9, it's one more.
TEN = loops(1, branch([[0, 0, 9]], [1, 0, 1]))
FOR_EVER = loops(1, branch([], [1, 0, 1]))

FAR = 10 ** 12


class RunRefused(unittest.TestCase):
    def test_how_many_rounds(self):
        for n in (-1, 201, HUGE, -HUGE):
            self.assertEqual(last(TEN, run(n, 0)), [-3])

    def test_values(self):
        for values in ((), (0, 0), (1000001,), (-1000001,), (HUGE,), (-HUGE,), (0,) * 10):
            for n in (0, 1, 200):
                self.assertEqual(last(TEN, run(n, *values)), [-5])
        two = loops(2, branch([[0, 0, 9]], same(2)))
        for values in ((), (0,), (0, 0, 0), (0, 1000001), (-1000001, 0)):
            self.assertEqual(last(two, run(3, *values)), [-5])

    def test_rounds_ahead_of_values(self):
        for n in (-1, 201, HUGE, -HUGE):
            for values in ((), (0, 0), (1000001,)):
                self.assertEqual(last(TEN, run(n, *values)), [-3])

    def test_edges(self):
        self.assertEqual(last(TEN, run(0, 1000000)), [0, 0, 1000000])
        self.assertEqual(last(TEN, run(1, -1000000)), [2, 1, -999999])


class HowItEnds(unittest.TestCase):
    def test_over(self):
        self.assertEqual(last(TEN, run(50, 7)), [0, 3, 10])
        self.assertEqual(last(TEN, run(50, 10)), [0, 0, 10])
        self.assertEqual(last(TEN, run(200, -190)), [0, 200, 10])

    def test_chosen_still(self):
        self.assertEqual(last(TEN, run(4, 0)), [2, 4, 4])
        self.assertEqual(last(TEN, run(200, -191)), [2, 200, 9])
        self.assertEqual(last(FOR_EVER, run(200, 5)), [2, 200, 205])

    def test_over_after_just_n_rounds(self):
        self.assertEqual(last(TEN, run(9, 0)), [2, 9, 9])
        self.assertEqual(last(TEN, run(10, 0)), [0, 10, 10])
        self.assertEqual(last(TEN, run(11, 0)), [0, 10, 10])
        self.assertEqual(last(TEN, run(1, 9)), [0, 1, 10])

    def test_no_rounds(self):
        self.assertEqual(last(TEN, run(0, 9)), [2, 0, 9])
        self.assertEqual(last(TEN, run(0, 10)), [0, 0, 10])
        self.assertEqual(last(FOR_EVER, run(0, 9)), [2, 0, 9])

    def test_a_round_that_changes_nothing_is_a_round(self):
        self.assertEqual(last(loops(1, branch([], same(1))), run(7, 3)), [2, 7, 3])


class Beyond(unittest.TestCase):
    # 200 rounds from 1000000 lead nowhere near 10^12, so this is seen with the parts alone.
    def ending(self, numbers, values, most):
        told = run_from(whole_loop(numbers, len(values)), values, most)
        return [told.outcome, told.rounds] + told.reached

    def test_above(self):
        self.assertEqual(self.ending([1, 0, 1, 0, 1], [FAR - 2], 9), [BEYOND, 3, FAR + 1])
        self.assertEqual(self.ending([1, 0, 1, 0, 1], [FAR - 2], 3), [BEYOND, 3, FAR + 1])
        self.assertEqual(self.ending([1, 0, 1, 0, 1], [FAR - 2], 2), [CHOSEN_STILL, 2, FAR])

    def test_below(self):
        self.assertEqual(self.ending([1, 0, 1, 0, -1], [2 - FAR], 9), [BEYOND, 3, -FAR - 1])
        self.assertEqual(self.ending([1, 0, 1, 0, -1], [2 - FAR], 2), [CHOSEN_STILL, 2, -FAR])

    def test_some_value(self):
        for place in range(3):
            values = [0, 0, 0]
            values[place] = FAR
            behind = [each + 1 for each in values]
            self.assertEqual(self.ending([1, 0, 1, 0, 1, 1, 1, 1, 1, 2, 1], values, 9), [BEYOND, 1] + behind)

    def test_behind_a_round_alone(self):
        self.assertEqual(self.ending([1, 0, 0, 5], [FAR + 9], 2), [CHOSEN_STILL, 2, 5])
        self.assertEqual(self.ending([1, 1, 0, 0, 9, 0, 5], [FAR + 9], 2), [OVER, 0, FAR + 9])
        self.assertEqual(self.ending([1, 0, 1, 0, 1], [FAR + 9], 0), [CHOSEN_STILL, 0, FAR + 9])

    def test_the_numbers_that_are_told(self):
        self.assertEqual((OVER, BEYOND, CHOSEN_STILL), (0, 1, 2))

    def test_as_it_is_answered(self):
        with mock.patch("loopclaimsdesk.rounds.FARTHEST", 1000005):
            self.assertEqual(last(FOR_EVER, claims([1, 1, 1000000 - 1], [-1, 0, 0]), run(200, 1000000)),
                             [1, 6, 1000006, 0, 1])
            self.assertEqual(last(FOR_EVER, run(5, 1000000)), [2, 5, 1000005])

    def test_not_within_200_rounds(self):
        self.assertEqual(last(loops(1, branch([], [1, 0, 99])), run(200, 1000000)), [2, 200, 1019800])
        self.assertEqual(last(loops(1, branch([], [1, 0, -99])), run(200, -1000000)), [2, 200, -1019800])


class Moves(unittest.TestCase):
    def test_by_the_values_ahead(self):
        swap = loops(2, branch([], [1, 1, 0, 1, 0, 0]))
        self.assertEqual(last(swap, run(1, 3, 8)), [2, 1, 8, 3])
        self.assertEqual(last(swap, run(2, 3, 8)), [2, 2, 3, 8])
        turn = loops(4, branch([], [1, 3, 1, 1, 0, 2, 1, 1, 3, 1, 2, 4]))
        self.assertEqual(last(turn, run(1, 10, 20, 30, 40)), [2, 1, 41, 12, 23, 34])
        self.assertEqual(last(turn, run(2, 10, 20, 30, 40)), [2, 2, 35, 43, 15, 27])

    def test_an_old_value_given_to_several(self):
        self.assertEqual(last(loops(3, branch([], [1, 1, 5, 1, 1, -5, 1, 1, 0])), run(1, 1, 2, 3)), [2, 1, 7, -3, 2])

    def test_a_number_alone(self):
        self.assertEqual(last(loops(2, branch([], [0, -99, 0, 99])), run(3, 1, 2)), [2, 3, -99, 99])
        self.assertEqual(last(loops(2, branch([], [0, 0, 1, 0, 1])), run(1, 7, 2)), [2, 1, 0, 8])


class Chosen(unittest.TestCase):
    def over(self, tests, *values):
        """Whether no branch is chosen, with one that has these tests."""
        n = len(values)
        return last(loops(n, branch(list(tests), same(n))), run(0, *values))[0] == 0

    def test_at_most(self):
        self.assertEqual([self.over([[0, 0, 3]], value) for value in (-9, 2, 3, 4)], [False, False, False, True])

    def test_at_least(self):
        self.assertEqual([self.over([[1, 0, 3]], value) for value in (9, 4, 3, 2)], [False, False, False, True])

    def test_below(self):
        self.assertEqual([self.over([[2, 0, 1, 3]], value, 5) for value in (7, 8, 9)], [False, False, True])
        self.assertEqual([self.over([[2, 1, 0, -3]], 5, value) for value in (1, 2, 3)], [False, False, True])

    def test_below_of_one_counter_with_itself(self):
        self.assertEqual([self.over([[2, 0, 0, number]], 7) for number in (0, 1, -1)], [False, False, True])

    def test_remainder(self):
        self.assertEqual([self.over([[3, 0, 3, 2]], value) for value in (2, 3, 5, -1, -2, -4)],
                         [False, True, False, False, True, False])
        for m in (2, 3, 4, 6):
            for r in range(m):
                for value in range(-6, 7):
                    self.assertEqual(self.over([[3, 0, m, r]], value), (value - r) % m != 0)

    def test_all_tests(self):
        tests = [0, 0, 9], [1, 0, 3], [3, 0, 2, 1]
        self.assertEqual([value for value in range(12) if not self.over(tests, value)], [3, 5, 7, 9])

    def test_without_tests(self):
        self.assertFalse(self.over([], -5))

    def test_the_first_one(self):
        # Down to 0 by tens while at least 10, then by ones.
        tens = branch([[1, 0, 10]], [1, 0, -10, 1, 1, 1])
        ones = branch([[1, 0, 1]], [1, 0, -1, 1, 1, 1])
        self.assertEqual(last(loops(2, tens, ones), run(200, 34, 0)), [0, 7, 0, 7])
        self.assertEqual(last(loops(2, ones, tens), run(200, 34, 0)), [0, 34, 0, 34])
        fives = branch([[1, 0, 5]], [1, 0, -5, 1, 1, 1])
        self.assertEqual(last(loops(2, tens, fives, ones), run(200, 39, 0)), [0, 8, 0, 8])

    def test_chosen_anew_each_round(self):
        turn = loops(2, branch([[2, 0, 1, -1]], [1, 0, 1, 1, 1, 0]), branch([[2, 1, 0, -1]], [1, 0, 0, 1, 1, 5]))
        self.assertEqual(last(turn, run(1, 3, 2)), [2, 1, 3, 7])
        self.assertEqual(last(turn, run(200, 3, 2)), [0, 5, 7, 7])


class Signs(unittest.TestCase):
    def test_of_each_fact_in_order(self):
        facts = [1, 0, 3], [1, 0, 4], [1, 1, 4], [1, 1, 5], [1, 2, 2, 0], [1, 2, 2, 1]
        self.assertEqual(last(FOR_EVER, claims(*facts), run(4, 0)), [2, 4, 4, 0, 1, 1, 0, 1, 0])

    def test_at_the_values_then(self):
        self.assertEqual(last(FOR_EVER, claims([1, 0, 0], [-1, 0, -1]), run(0, 0)), [2, 0, 0, 1, 0])
        self.assertEqual(last(FOR_EVER, claims([1, 0, 0], [-1, 0, -1]), run(1, 0)), [2, 1, 1, 0, 1])
        self.assertEqual(last(TEN, claims([1, 0, 9], [1, 1, 10]), run(50, 0)), [0, 10, 10, 0, 1])

    def test_claim_without_facts(self):
        self.assertEqual(last(TEN, run(50, 0)), [0, 10, 10])

    def test_longest_answer(self):
        four = loops(4, branch([], same(4)))
        self.assertEqual(last(four, claims(*[[1, 1, 1, 1, 1, 10]] * 6), run(200, 1, 2, 3, 4)),
                         [2, 200, 1, 2, 3, 4, 1, 1, 1, 1, 1, 1])


class RunChangesNothing(unittest.TestCase):
    def test_nothing_changes(self):
        asked = [run(4, 0), holds(11), CHECK, TRIM]
        answers = ask(TEN, claims([1, 0, 10]), *asked, run(201, 0), run(0), run(200, 9), *asked)
        first = [[2, 4, 4, 1], [0, 0], [1], [1, 0]]
        self.assertEqual(answers[2:], first + [[-3], [-5], [0, 1, 10, 1]] + first)


class AtALinesBeginning(unittest.TestCase):
    def test_no_branch_is_chosen(self):
        for value in (-1000000, -2, -1, 0, 1, 1000000):
            self.assertEqual(ask(run(0, value), run(200, value)), [[0, 0, value]] * 2)

    def test_one_counter(self):
        self.assertEqual(ask(run(1), run(1, 0, 0), run(201), run(1, 5)), [[-5], [-5], [-3], [0, 0, 5]])

    def test_claim_without_facts(self):
        self.assertEqual(ask(run(9, 5), claims([1, 0, 4]), run(9, 5)), [[0, 0, 5], [1], [0, 0, 5, 0]])
