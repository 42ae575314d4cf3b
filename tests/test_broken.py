import unittest

from tests.helper import CHECK, HUGE, TRIM, ask, branch, broken, claims, holds, last, loops, same


def up(n):
    """The move by which the first counter is one more."""
    return [1, 0, 1] + same(n)[3:]


def sum_at_most(n, number):
    return claims([1] * n + [0, number])


class BrokenRefused(unittest.TestCase):
    def test_lo_and_hi(self):
        for lo, hi in ((-1000001, -1000001), (-1000001, -1000000), (-HUGE, -HUGE), (1000001, 1000001),
                       (1000000, 1000001), (HUGE, HUGE), (1, 0), (0, -1), (1000000, -1000000), (HUGE, -HUGE),
                       (HUGE, 0), (0, -HUGE)):
            for n in range(1, 5):
                self.assertEqual(last(loops(n, branch([], same(n))), broken(lo, hi)), [-5])

    def test_edges_of_lo_and_hi(self):
        for n in range(1, 5):
            stays = loops(n, branch([], same(n)))
            for lo, hi in ((-1000000, -1000000), (1000000, 1000000), (0, 0), (-1, -1), (999999, 1000000)):
                self.assertEqual(last(stays, broken(lo, hi)), [1])

    def test_more_than_125_values(self):
        for n, most in ((1, 125), (2, 11), (3, 5), (4, 3)):
            stays = loops(n, branch([], same(n)))
            for lo in (-1000000, -2, 0, 1000000 - most):
                self.assertEqual(last(stays, broken(lo, lo + most - 1)), [1])
                self.assertEqual(last(stays, broken(lo, lo + most)), [-7])
            self.assertEqual(last(stays, broken(-1000000, 1000000)), [-7])

    def test_lo_and_hi_ahead_of_how_many(self):
        for lo, hi in ((-1000001, 1000000), (-1000000, 1000001), (-HUGE, HUGE), (200, 0), (1000000, -1000000)):
            self.assertEqual(last(broken(lo, hi)), [-5])

    def test_whatever_the_claim(self):
        answers = ask(loops(1, branch([], up(1))), sum_at_most(1, 0), broken(0, 125), broken(1, 0), broken(0, 124))
        self.assertEqual(answers[2:], [[-7], [-5], [0, 0, 0, 0]])


class OrderOfValues(unittest.TestCase):
    def test_rising(self):
        up_and_down = branch([], [1, 0, 5])
        self.assertEqual(last(loops(1, up_and_down), claims([1, 0, 3]), broken(-9, 9)), [0, 0, 0, -1])

    def test_by_the_first_counter_then_the_second(self):
        self.assertEqual(last(loops(2, branch([], up(2))), sum_at_most(2, 3), broken(0, 3)), [0, 0, 0, 0, 3])
        self.assertEqual(last(loops(2, branch([], up(2))), sum_at_most(2, 4), broken(0, 3)), [0, 0, 0, 1, 3])
        self.assertEqual(last(loops(2, branch([], up(2))), sum_at_most(2, -2), broken(-3, 1)), [0, 0, 0, -3, 1])

    def test_by_all_of_three_and_four(self):
        self.assertEqual(last(loops(3, branch([], up(3))), sum_at_most(3, 5), broken(0, 3)), [0, 0, 0, 0, 2, 3])
        self.assertEqual(last(loops(4, branch([], up(4))), sum_at_most(4, 5), broken(0, 2)), [0, 0, 0, 0, 1, 2, 2])

    def test_last_values(self):
        for n, most in ((1, 125), (2, 11), (3, 5), (4, 3)):
            loop = loops(n, branch([], up(n)))
            top = n * (most - 1)
            self.assertEqual(last(loop, sum_at_most(n, top), broken(0, most - 1)), [0, 0, 0] + [most - 1] * n)
            self.assertEqual(last(loop, sum_at_most(n, top + 1), broken(0, most - 1)), [1])

    def test_first_values(self):
        for n in range(1, 5):
            self.assertEqual(last(loops(n, branch([], up(n))), claims([1] * n + [2, 2, 0]), broken(-2, 0)),
                             [0, 0, 0] + [-2] * n)

    def test_one_value(self):
        self.assertEqual(last(loops(1, branch([], up(1))), claims([1, 0, 3]), broken(3, 3)), [0, 0, 0, 3])
        self.assertEqual(last(loops(1, branch([], up(1))), claims([1, 0, 3]), broken(4, 4)), [1])
        self.assertEqual(last(loops(1, branch([], [1, 0, -1])), claims([1, 2, 2, 0]), broken(-1000000, -1000000)),
                         [0, 0, 0, -1000000])


class WhereItIsBroken(unittest.TestCase):
    def test_the_claim_has_to_hold(self):
        self.assertEqual(last(loops(1, branch([], up(1))), claims([1, 1, 7]), broken(0, 6)), [1])
        self.assertEqual(last(loops(1, branch([], up(1))), claims([1, 1, 7]), broken(0, 7)), [0, 0, 0, 7])

    def test_all_facts_have_to_hold(self):
        facts = [1, 0, 9], [-1, 0, -4], [1, 2, 2, 1]
        self.assertEqual(last(loops(1, branch([], up(1))), claims(*facts), broken(0, 4)), [1])
        self.assertEqual(last(loops(1, branch([], up(1))), claims(*facts), broken(0, 9)), [0, 0, 2, 5])

    def test_a_branch_has_to_be_chosen(self):
        self.assertEqual(last(loops(1, branch([[0, 0, 2]], up(1))), claims([1, 0, 3]), broken(0, 9)), [1])
        self.assertEqual(last(loops(1, branch([[0, 0, 3]], up(1))), claims([1, 0, 3]), broken(0, 9)), [0, 0, 0, 3])

    def test_all_tests_have_to_hold(self):
        tests = [0, 0, 9], [1, 0, 4], [3, 0, 2, 1]
        self.assertEqual(last(loops(1, branch(tests, [0, 50])), claims([1, 0, 20]), broken(0, 20)), [0, 0, 0, 5])
        self.assertEqual(last(loops(1, branch(tests, [0, 50])), claims([1, 0, 20]), broken(0, 4)), [1])
        self.assertEqual(last(loops(1, branch(tests, [0, 50])), claims([1, 0, 20]), broken(10, 20)), [1])

    def test_the_first_branch_whose_tests_hold(self):
        stays, breaks = branch([[0, 0, 4]], same(1)), branch([[0, 0, 6]], [0, 50])
        self.assertEqual(last(loops(1, stays, breaks), claims([1, 0, 9]), broken(0, 4)), [1])
        self.assertEqual(last(loops(1, stays, breaks), claims([1, 0, 9]), broken(0, 9)), [0, 1, 0, 5])
        self.assertEqual(last(loops(1, stays, branch([[1, 0, 8]], same(1)), breaks), claims([1, 0, 9]), broken(0, 9)),
                         [0, 2, 0, 5])
        self.assertEqual(last(loops(1, breaks, stays), claims([1, 0, 9]), broken(0, 9)), [0, 0, 0, 0])

    def test_a_branch_without_tests_is_always_chosen(self):
        self.assertEqual(last(loops(1, branch([], same(1)), branch([], [0, 50])), claims([1, 0, 9]), broken(0, 9)), [1])

    def test_one_that_breaks_in_several_branches(self):
        # Each branch breaks it; told is the one that's chosen at the first values.
        three = [branch([[1, 0, number]], [0, 50]) for number in (6, 3, 1)]
        self.assertEqual(last(loops(1, *three), claims([1, 0, 9]), broken(0, 9)), [0, 2, 0, 1])
        self.assertEqual(last(loops(1, *three), claims([1, 0, 9]), broken(3, 9)), [0, 1, 0, 3])

    def test_the_first_fact(self):
        facts = [-1, 0, 0], [1, 0, 8], [1, 0, 5], [1, 2, 2, 1]
        self.assertEqual(last(loops(1, branch([], [1, 0, 2])), claims(*facts), broken(0, 9)), [0, 0, 2, 5])
        self.assertEqual(last(loops(1, branch([], [1, 0, 1])), claims(*facts), broken(0, 9)), [0, 0, 3, 1])
        self.assertEqual(last(loops(1, branch([], [1, 0, 8])), claims(*facts), broken(0, 9)), [0, 0, 1, 1])

    def test_values_ahead_of_the_move_are_told(self):
        self.assertEqual(last(loops(2, branch([], [0, 9, 0, 9])), claims([1, 0, 0, 3]), broken(1, 2)), [0, 0, 0, 1, 1])

    def test_given_all_at_once(self):
        swap = loops(2, branch([], [1, 1, 0, 1, 0, 0]))
        self.assertEqual(last(swap, claims([1, 1, 1, 4]), broken(0, 4)), [1])
        self.assertEqual(last(swap, claims([1, -1, 0, 0]), broken(0, 4)), [0, 0, 0, 0, 1])

    def test_behind_one_round_alone(self):
        self.assertEqual(last(loops(1, branch([], up(1))), claims([1, 0, 9]), broken(0, 8)), [1])

    def test_values_behind_may_be_out_of_lo_and_hi(self):
        self.assertEqual(last(loops(1, branch([], up(1))), claims([1, 2, 3, 1]), broken(1000000, 1000000)),
                         [0, 0, 0, 1000000])

    def test_of_values_below_0(self):
        self.assertEqual(last(loops(1, branch([[3, 0, 3, 2]], [0, 50])), claims([1, 0, 9]), broken(-3, 0)),
                         [0, 0, 0, -1])
        self.assertEqual(last(loops(1, branch([], up(1))), claims([1, 2, 3, 2]), broken(-3, 0)), [0, 0, 0, -1])

    def test_what_is_not_shown_may_be_unbroken(self):
        answers = ask(loops(1, branch([[0, 0, 9]], up(1))), claims([1, 0, 12], [1, 1, 12]), CHECK, broken(0, 9))
        self.assertEqual(answers[2:], [[0, 0, 1], [1]])

    def test_claim_without_facts(self):
        self.assertEqual(last(loops(1, branch([], up(1))), broken(0, 9)), [1])

    def test_nothing_changes(self):
        asked = [broken(0, 9), holds(4), CHECK, TRIM]
        answers = ask(loops(1, branch([], up(1))), claims([1, 0, 3]), *asked, broken(9, 0), broken(0, 999), *asked)
        self.assertEqual(answers[2:], [[0, 0, 0, 3], [0, 0], [0, 0, 0], [0], [-5], [-7]] + answers[2:6])

    def test_at_a_lines_beginning(self):
        answers = ask(broken(-62, 62), broken(-62, 63), broken(1, 0), claims([1, 1, 0]), broken(-62, 62))
        self.assertEqual(answers, [[1], [-7], [-5], [1], [1]])
