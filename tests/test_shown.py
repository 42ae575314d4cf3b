import unittest

from tests.helper import HUGE, branch, claims, last, loops, same, shown

# The second counter gets the first one's old value: what a fact says of counter 1
# has to be so of counter 0 ahead of it, so a last fact about 1 is shown from those about 0.
COPY = [1, 0, 0, 1, 0, 0]


def copied(*facts, tests=()):
    """The first uses for the last of these facts, with the loop that copies."""
    return last(loops(2, branch(list(tests), COPY)), claims(*facts), shown(0, len(facts) - 1))


def one(fact, test, move):
    """The first uses for the only fact about one counter, with one branch of this test and move."""
    return last(loops(1, branch([test], move)), claims(fact), shown(0, 0))


class ShownRefused(unittest.TestCase):
    def test_no_such_branch(self):
        two = loops(1, branch([], same(1)), branch([], same(1)))
        for number in (-1, 2, HUGE, -HUGE):
            self.assertEqual(last(two, claims([1, 0, 5]), shown(number, 0)), [-2])

    def test_no_such_fact(self):
        two = loops(1, branch([], same(1)), branch([], same(1)))
        for number in (-1, 1, HUGE, -HUGE):
            self.assertEqual(last(two, claims([1, 0, 5]), shown(1, number)), [-3])

    def test_branch_ahead_of_fact(self):
        self.assertEqual(last(claims([1, 0, 5]), shown(1, 1)), [-2])
        self.assertEqual(last(shown(-1, -1)), [-2])
        self.assertEqual(last(shown(0, 0)), [-3])


class Ahead(unittest.TestCase):
    def test_all_counters_given_the_same_old_value(self):
        # 0 and 1 together at most 20 behind; ahead of it: twice 0 at most 18.
        two = loops(2, branch([[0, 0, 9]], [1, 0, 0, 1, 0, 2]))
        self.assertEqual(last(two, claims([1, 1, 0, 20]), shown(0, 0)), [1, 1, 1, 2])
        self.assertEqual(last(two, claims([1, 1, 0, 19]), shown(0, 0)), [0])

    def test_times_that_cancel(self):
        two = loops(2, branch([], [1, 0, 4, 1, 0, 1]))
        self.assertEqual(last(two, claims([1, -1, 1, 3]), shown(0, 0)), [1, 0])
        self.assertEqual(last(two, claims([1, -1, 1, 4]), shown(0, 0)), [0])

    def test_numbers_as_many_times_as_their_counter_has(self):
        two = loops(2, branch([], [0, 5, 0, -7]))
        self.assertEqual(last(two, claims([3, 2, 1, 1]), shown(0, 0)), [1, 0])
        self.assertEqual(last(two, claims([3, 2, 1, 2]), shown(0, 0)), [0])

    def test_remainder_is_brought_back(self):
        self.assertEqual(one([1, 2, 4, 0], [3, 0, 4, 1], [1, 0, 99]), [1, 1, 1, 1])
        self.assertEqual(one([1, 2, 4, 0], [3, 0, 4, 3], [1, 0, -99]), [1, 1, 1, 1])
        self.assertEqual(one([1, 2, 4, 0], [3, 0, 4, 2], [1, 0, 99]), [0])

    def test_all_at_once(self):
        swap = loops(2, branch([], [1, 1, 0, 1, 0, 0]))
        self.assertEqual(last(swap, claims([1, 0, 0, 3], [0, 1, 0, 3]), shown(0, 0)), [1, 1, 1, 1])
        self.assertEqual(last(swap, claims([1, 0, 0, 3], [0, 1, 0, 4]), shown(0, 0)), [0])


class NoUses(unittest.TestCase):
    def given_5(self, fact):
        return last(loops(1, branch([], [0, 5])), claims(fact), shown(0, 0))

    def test_at_most(self):
        self.assertEqual(self.given_5([1, 0, 5]), [1, 0])
        self.assertEqual(self.given_5([1, 0, 6]), [1, 0])
        self.assertEqual(self.given_5([1, 0, 4]), [0])

    def test_just(self):
        self.assertEqual(self.given_5([1, 1, 5]), [1, 0])
        self.assertEqual(self.given_5([1, 1, 6]), [0])
        self.assertEqual(self.given_5([1, 1, 4]), [0])

    def test_remainder(self):
        self.assertEqual(self.given_5([1, 2, 4, 1]), [1, 0])
        self.assertEqual(self.given_5([1, 2, 4, 2]), [0])
        self.assertEqual(self.given_5([-1, 2, 4, 3]), [1, 0])

    def test_remainder_with_times_that_are_multiples(self):
        step = loops(1, branch([], [1, 0, 1]))
        self.assertEqual(last(step, claims([2, 2, 2, 0]), shown(0, 0)), [1, 0])
        self.assertEqual(last(step, claims([-4, 2, 4, 0]), shown(0, 0)), [1, 0])
        self.assertEqual(last(step, claims([3, 2, 6, 0]), shown(0, 0)), [0])
        self.assertEqual(last(step, claims([-3, 2, 3, 0]), shown(0, 0)), [1, 0])

    def test_at_most_and_just_need_no_times_at_all(self):
        self.assertEqual(copied([0, 2, 0, 0]), [0])
        self.assertEqual(copied([0, 2, 1, 0]), [0])

    def test_ahead_of_one_use(self):
        self.assertEqual(copied([0, 0, 0, 0]), [1, 0])
        self.assertEqual(copied([0, 0, 1, 0]), [1, 0])
        self.assertEqual(copied([0, 4, 2, 2, 0]), [1, 0])


class OneUse(unittest.TestCase):
    def test_once_and_twice(self):
        self.assertEqual(copied([1, 0, 0, 3], [0, 1, 0, 3]), [1, 1, 0, 1])
        self.assertEqual(copied([1, 0, 0, 3], [0, 2, 0, 6]), [1, 1, 0, 2])
        self.assertEqual(copied([1, 0, 0, 3], [0, 2, 0, 5]), [0])
        self.assertEqual(copied([1, 0, 0, 3], [0, 3, 0, 9]), [0])

    def test_each_counter_counts(self):
        self.assertEqual(copied([1, 1, 0, 3], [0, 1, 0, 3]), [0])
        self.assertEqual(copied([1, 1, 1, 3], [0, 1, 1, 3]), [0])
        self.assertEqual(copied([1, 1, 2, 2, 1], [0, 1, 2, 2, 1]), [0])
        self.assertEqual(copied([1, 2, 2, 2, 1], [0, 1, 2, 2, 1]), [1, 1, 0, 1])

    def test_at_most_from_at_most(self):
        self.assertEqual(copied([1, 0, 0, 3], [0, 1, 0, 4]), [1, 1, 0, 1])
        self.assertEqual(copied([1, 0, 0, 3], [0, 1, 0, 2]), [0])

    def test_what_is_at_most_is_not_used_against_itself(self):
        self.assertEqual(copied([1, 0, 0, 0], [0, -1, 0, 0]), [0])
        self.assertEqual(copied([1, 0, 0, 0], [0, -2, 0, 0]), [0])

    def test_at_most_from_just(self):
        for times, often in ((1, 1), (2, 2), (-1, -1), (-2, -2)):
            self.assertEqual(copied([1, 0, 1, 3], [0, times, 0, 3 * times]), [1, 1, 0, often])
            self.assertEqual(copied([1, 0, 1, 3], [0, times, 0, 3 * times + 1]), [1, 1, 0, often])
            self.assertEqual(copied([1, 0, 1, 3], [0, times, 0, 3 * times - 1]), [0])
        self.assertEqual(copied([1, 0, 1, 3], [0, 3, 0, 9]), [0])
        self.assertEqual(copied([1, 0, 1, 3], [0, -3, 0, -9]), [0])

    def test_just_from_just(self):
        for times, often in ((1, 1), (2, 2), (-1, -1), (-2, -2)):
            self.assertEqual(copied([1, 0, 1, 3], [0, times, 1, 3 * times]), [1, 1, 0, often])
            self.assertEqual(copied([1, 0, 1, 3], [0, times, 1, 3 * times + 1]), [0])
            self.assertEqual(copied([1, 0, 1, 3], [0, times, 1, 3 * times - 1]), [0])

    def test_just_from_nothing_else(self):
        self.assertEqual(copied([1, 0, 0, 3], [0, 1, 1, 3]), [0])
        self.assertEqual(copied([1, 0, 2, 6, 3], [0, 1, 1, 3]), [0])
        self.assertEqual(copied([1, 0, 0, 3], [-1, 0, 0, -3], [0, 1, 1, 3]), [0])

    def test_at_most_not_from_a_remainder(self):
        self.assertEqual(copied([1, 0, 2, 6, 3], [0, 1, 0, 3]), [0])

    def test_remainder_from_just(self):
        self.assertEqual(copied([1, 0, 1, 7], [0, 1, 2, 4, 3]), [1, 1, 0, 1])
        self.assertEqual(copied([1, 0, 1, 7], [0, 1, 2, 4, 2]), [0])
        self.assertEqual(copied([1, 0, 1, -7], [0, 1, 2, 4, 1]), [1, 1, 0, 1])
        self.assertEqual(copied([1, 0, 1, 7], [0, 2, 2, 6, 2]), [1, 1, 0, 2])
        self.assertEqual(copied([1, 0, 1, 7], [0, -1, 2, 6, 5]), [1, 1, 0, -1])
        self.assertEqual(copied([1, 0, 1, 7], [0, -2, 2, 6, 4]), [1, 1, 0, -2])

    def test_remainder_not_from_at_most(self):
        self.assertEqual(copied([1, 0, 0, 3], [0, 1, 2, 4, 3]), [0])

    def test_remainder_from_a_remainder(self):
        for times, often in ((1, 1), (2, 2), (-1, -1), (-2, -2)):
            self.assertEqual(copied([1, 0, 2, 6, 5], [0, times, 2, 6, 5 * times % 6]), [1, 1, 0, often])
            self.assertEqual(copied([1, 0, 2, 6, 5], [0, times, 2, 6, (5 * times + 1) % 6]), [0])
        self.assertEqual(copied([1, 0, 2, 6, 5], [0, 3, 2, 6, 3]), [0])

    def test_remainder_by_what_goes_into_k(self):
        for k in (2, 3, 4, 6):
            for m in (2, 3, 4, 6):
                goes = k % m == 0
                self.assertEqual(copied([1, 0, 2, k, 1], [0, 1, 2, m, 1]), [1, 1, 0, 1] if goes else [0])
        self.assertEqual(copied([1, 0, 2, 6, 5], [0, 1, 2, 3, 2]), [1, 1, 0, 1])
        self.assertEqual(copied([1, 0, 2, 4, 3], [0, 1, 2, 2, 1]), [1, 1, 0, 1])

    def test_times_that_differ_by_a_multiple(self):
        self.assertEqual(copied([1, 0, 2, 3, 1], [0, 4, 2, 3, 1]), [1, 1, 0, 1])
        self.assertEqual(copied([1, 0, 2, 3, 1], [0, -5, 2, 3, 1]), [1, 1, 0, 1])
        self.assertEqual(copied([1, 4, 2, 4, 1], [0, -3, 2, 4, 1]), [1, 1, 0, 1])

    def test_first_by_the_fact(self):
        self.assertEqual(copied([1, 0, 0, 5], [1, 0, 0, 3], [1, 0, 0, 2], [0, 1, 0, 3]), [1, 1, 1, 1])
        # Twice the first fact goes ahead of once the second one.
        self.assertEqual(copied([1, 0, 0, 1], [2, 0, 0, 2], [0, 2, 0, 2]), [1, 1, 0, 2])
        self.assertEqual(copied([-1, 0, 1, 1], [1, 0, 1, -1], [0, 1, 1, -1]), [1, 1, 0, -1])

    def test_first_by_how_many_times(self):
        # By 2, once and -1 times say the same; by 3, twice and -1 times, once and -2 times.
        self.assertEqual(copied([1, 0, 2, 2, 1], [0, 1, 2, 2, 1]), [1, 1, 0, 1])
        self.assertEqual(copied([1, 0, 2, 3, 1], [0, 2, 2, 3, 2]), [1, 1, 0, 2])
        self.assertEqual(copied([1, 0, 2, 3, 1], [0, 1, 2, 3, 1]), [1, 1, 0, 1])
        self.assertEqual(copied([1, 0, 2, 4, 1], [0, 2, 2, 4, 2]), [1, 1, 0, 2])

    def test_a_fact_from_itself(self):
        self.assertEqual(last(claims([1, 0, 5]), shown(0, 0)), [1, 1, 0, 1])
        swap = loops(2, branch([], [1, 1, 0, 1, 0, 0]))
        self.assertEqual(last(swap, claims([1, -1, 1, 0]), shown(0, 0)), [1, 1, 0, -1])
        self.assertEqual(last(swap, claims([1, -1, 0, 0]), shown(0, 0)), [0])


class TwoUses(unittest.TestCase):
    def test_at_most(self):
        four = loops(4, branch([], [1, 0, 0, 1, 1, 0, 1, 0, 0, 1, 1, 0]))
        facts = [1, 0, 0, 0, 0, 3], [0, 1, 0, 0, 0, 4]
        self.assertEqual(last(four, claims(*facts, [0, 0, 1, 1, 0, 7]), shown(0, 2)), [1, 2, 0, 1, 1, 1])
        self.assertEqual(last(four, claims(*facts, [0, 0, 2, 1, 0, 10]), shown(0, 2)), [1, 2, 0, 2, 1, 1])
        self.assertEqual(last(four, claims(*facts, [0, 0, 1, 2, 0, 11]), shown(0, 2)), [1, 2, 0, 1, 1, 2])
        self.assertEqual(last(four, claims(*facts, [0, 0, 2, 2, 0, 14]), shown(0, 2)), [1, 2, 0, 2, 1, 2])
        self.assertEqual(last(four, claims(*facts, [0, 0, 1, 1, 0, 6]), shown(0, 2)), [0])
        self.assertEqual(last(four, claims(*facts, [0, 0, 3, 1, 0, 99]), shown(0, 2)), [0])

    def test_at_most_from_just_and_at_most(self):
        # 0 is just 3 more than 2; 2 is at most 4.
        three = loops(3, branch([], [1, 0, 0, 1, 0, 0, 1, 2, 0]))
        facts = [-1, 0, 1, 1, -3], [0, 0, 1, 0, 4]
        self.assertEqual(last(three, claims(*facts, [0, 1, 0, 0, 7]), shown(0, 2)), [1, 2, 0, -1, 1, 1])
        self.assertEqual(last(three, claims(*facts, [0, 1, 0, 0, 6]), shown(0, 2)), [0])
        self.assertEqual(last(three, claims(*facts, [0, 2, 0, 0, 14]), shown(0, 2)), [1, 2, 0, -2, 1, 2])

    def test_remainder_from_just_and_remainder(self):
        # 5 and -2 are 3, but by 6 so are 5 and 4, which go first.
        self.assertEqual(copied([5, 0, 1, 5], [2, 0, 2, 6, 2], [0, 3, 2, 6, 3]), [1, 2, 0, 1, 1, 2])

    def test_never_one_fact_twice_over(self):
        self.assertEqual(copied([1, 0, 1, 1], [0, 3, 1, 3]), [0])
        self.assertEqual(copied([1, 0, 1, 1], [0, 4, 1, 4]), [0])

    def test_never_three(self):
        self.assertEqual(copied([1, 0, 0, 1], [1, 0, 0, 1], [1, 0, 0, 1], [0, 5, 0, 5]), [0])
        self.assertEqual(copied([1, 0, 0, 1], [1, 0, 0, 1], [1, 0, 0, 1], [0, 4, 0, 4]), [1, 2, 0, 2, 1, 2])

    def test_behind_one_use(self):
        self.assertEqual(copied([1, 0, 0, 1], [2, 0, 0, 2], [3, 0, 0, 3], [0, 3, 0, 3]), [1, 1, 2, 1])

    def test_first_by_the_firsts_times_ahead_of_the_seconds_fact(self):
        # Once 0 with the third goes ahead of twice 0 with the second.
        three = loops(3, branch([], [1, 0, 0, 1, 1, 0, 1, 0, 0]))
        facts = [1, 0, 0, 0, 0], [-1, 1, 0, 0, 0], [0, 1, 0, 0, 0], [0, 1, 1, 0, 0]
        self.assertEqual(last(three, claims(*facts), shown(0, 3)), [1, 2, 0, 1, 2, 1])

    def test_first_by_the_seconds_fact(self):
        self.assertEqual(copied([1, 0, 0, 1], [2, 0, 0, 9], [2, 0, 0, 2], [2, 0, 0, 2], [0, 3, 0, 3]),
                         [1, 2, 0, 1, 2, 1])

    def test_minus_once_ahead_of_minus_twice(self):
        # -4 is -3 and -1, and also -6 and 2.
        self.assertEqual(copied([3, 0, 1, 3], [1, 0, 1, 1], [0, -4, 1, -4]), [1, 2, 0, -1, 1, -1])

    def test_minus_once_with_once(self):
        self.assertEqual(copied([4, 0, 1, 4], [1, 0, 1, 1], [0, -3, 1, -3]), [1, 2, 0, -1, 1, 1])

    def test_twice_ahead_of_minus_once(self):
        # By 3, twice and -1 times say the same, and so do once and -2 times.
        four = loops(4, branch([], [1, 0, 0, 1, 1, 0, 1, 0, 0, 1, 1, 0]))
        facts = [1, 0, 0, 0, 2, 3, 1], [0, 1, 0, 0, 2, 3, 1]
        self.assertEqual(last(four, claims(*facts, [0, 0, 2, 1, 2, 3, 0]), shown(0, 2)), [1, 2, 0, 2, 1, 1])
        self.assertEqual(last(four, claims(*facts, [0, 0, 1, 2, 2, 3, 0]), shown(0, 2)), [1, 2, 0, 1, 1, 2])

    def test_once_ahead_of_minus_once(self):
        four = loops(4, branch([], [1, 0, 0, 1, 1, 0, 1, 0, 0, 1, 1, 0]))
        facts = [1, 0, 0, 0, 2, 2, 1], [0, 1, 0, 0, 2, 2, 1]
        self.assertEqual(last(four, claims(*facts, [0, 0, 1, 1, 2, 2, 0]), shown(0, 2)), [1, 2, 0, 1, 1, 1])


class UsableTests(unittest.TestCase):
    def test_at_most(self):
        self.assertEqual(one([1, 0, 10], [0, 0, 9], [1, 0, 1]), [1, 1, 1, 1])
        self.assertEqual(one([1, 0, 10], [0, 0, 10], [1, 0, 1]), [0])

    def test_at_least(self):
        self.assertEqual(one([-1, 0, 3], [1, 0, -2], [1, 0, -1]), [1, 1, 1, 1])
        self.assertEqual(one([-1, 0, 3], [1, 0, -3], [1, 0, -1]), [0])

    def test_below(self):
        for number, answer in ((-1, [1, 1, 1, 1]), (0, [0])):
            two = loops(2, branch([[2, 0, 1, number]], [1, 0, 1, 1, 1, 0]))
            self.assertEqual(last(two, claims([1, -1, 0, 0]), shown(0, 0)), answer)
        for number, answer in ((4, [1, 1, 1, 1]), (5, [0])):
            two = loops(2, branch([[2, 1, 0, number]], [1, 0, 0, 1, 1, 1]))
            self.assertEqual(last(two, claims([-1, 1, 0, 5]), shown(0, 0)), answer)

    def test_below_of_one_counter_with_itself(self):
        # 0 is at most -1 then, from which all that's 0 at most something follows.
        self.assertEqual(one([1, 0, 4], [2, 0, 0, -1], [0, 5]), [1, 1, 1, 1])
        self.assertEqual(one([1, 0, 3], [2, 0, 0, -1], [0, 5]), [1, 1, 1, 2])
        self.assertEqual(one([1, 0, 2], [2, 0, 0, -1], [0, 5]), [0])

    def test_remainder(self):
        self.assertEqual(one([1, 2, 2, 0], [3, 0, 2, 1], [1, 0, 1]), [1, 1, 1, 1])
        self.assertEqual(one([1, 2, 2, 0], [3, 0, 4, 3], [1, 0, 1]), [1, 1, 1, 1])
        self.assertEqual(one([1, 2, 4, 0], [3, 0, 2, 1], [1, 0, 1]), [0])
        self.assertEqual(one([2, 2, 6, 0], [3, 0, 6, 2], [1, 0, 1]), [1, 1, 1, 2])

    def test_numbered_behind_the_claims_facts_in_order(self):
        tests = [0, 0, 99], [1, 0, 2], [0, 0, 9]
        three = loops(1, branch(tests, [1, 0, 1]))
        self.assertEqual(last(three, claims([-1, 0, 5], [1, 0, 10]), shown(0, 1)), [1, 1, 4, 1])

    def test_claims_facts_go_first(self):
        self.assertEqual(copied([1, 0, 0, 3], [0, 1, 0, 3], tests=([0, 0, 3],)), [1, 1, 0, 1])

    def test_other_branches_tests_are_not_usable(self):
        two = loops(1, branch([[0, 0, 9]], [1, 0, 1]), branch([], [1, 0, 1]), branch([[0, 0, 9]], same(1)))
        self.assertEqual(last(two, claims([1, 0, 10]), shown(0, 0)), [1, 1, 1, 1])
        self.assertEqual(last(two, claims([1, 0, 10]), shown(1, 0)), [0])


class UsableBranchesAhead(unittest.TestCase):
    def second(self, tests, fact, move, own=()):
        """The first uses for the fact in the second branch, behind one with these tests."""
        n = len(move) // 3
        two = loops(n, branch(tests, same(n)), branch(list(own), move))
        return last(two, claims(fact), shown(1, 0))

    def test_at_most(self):
        self.assertEqual(self.second([[0, 0, 9]], [-1, 0, -9], [1, 0, -1]), [1, 1, 1, 1])
        self.assertEqual(self.second([[0, 0, 8]], [-1, 0, -9], [1, 0, -1]), [0])

    def test_at_least(self):
        self.assertEqual(self.second([[1, 0, 5]], [1, 0, 5], [1, 0, 1]), [1, 1, 1, 1])
        self.assertEqual(self.second([[1, 0, 6]], [1, 0, 5], [1, 0, 1]), [0])

    def test_below(self):
        self.assertEqual(self.second([[2, 0, 1, 3]], [-1, 1, 0, -3], [1, 0, -1, 1, 1, 0]), [1, 1, 1, 1])
        self.assertEqual(self.second([[2, 0, 1, 2]], [-1, 1, 0, -3], [1, 0, -1, 1, 1, 0]), [0])
        self.assertEqual(self.second([[2, 1, 0, -4]], [1, -1, 0, 4], [1, 0, 1, 1, 1, 0]), [1, 1, 1, 1])

    def test_below_of_one_counter_with_itself(self):
        # It can't fail with 0 or more: what's so then is 0 at most -1.
        self.assertEqual(last(loops(1, branch([[2, 0, 0, 0]], same(1)), branch([], [0, 5])), claims([1, 0, 4]),
                              shown(1, 0)), [1, 1, 1, 1])

    def test_nothing_for_a_remainder(self):
        self.assertEqual(self.second([[3, 0, 2, 0]], [1, 2, 2, 0], [1, 0, 1]), [0])
        self.assertEqual(self.second([[3, 0, 2, 1]], [1, 2, 2, 0], [1, 0, 1]), [0])

    def test_a_remainder_takes_no_number(self):
        three = loops(1, branch([[3, 0, 2, 0]], same(1)), branch([[0, 0, 9]], same(1)), branch([], [1, 0, -1]))
        self.assertEqual(last(three, claims([-1, 0, -9]), shown(2, 0)), [1, 1, 1, 1])

    def test_just_one_test(self):
        self.assertEqual(self.second([], [-1, 0, -9], [1, 0, -1]), [0])
        self.assertEqual(self.second([[0, 0, 9], [0, 0, 9]], [-1, 0, -9], [1, 0, -1]), [0])
        self.assertEqual(self.second([[0, 0, 9]] * 3, [-1, 0, -9], [1, 0, -1]), [0])

    def test_behind_the_own_tests(self):
        self.assertEqual(self.second([[0, 0, 9]], [-1, 0, -9], [1, 0, -1], own=[[0, 0, 50], [3, 0, 2, 1]]),
                         [1, 1, 3, 1])
        self.assertEqual(self.second([[0, 0, 9]], [-1, 0, -9], [1, 0, -1], own=[[1, 0, 10]]), [1, 1, 1, 1])

    def test_in_the_branches_order(self):
        three = loops(1, branch([[0, 0, 4]], same(1)), branch([[1, 0, 20]], same(1)), branch([[0, 0, 90]], same(1)))
        down = loops(1, branch([[0, 0, 4]], same(1)), branch([[1, 0, 20]], same(1)), branch([[0, 0, 90]], [1, 0, -1]))
        up = loops(1, branch([[0, 0, 4]], same(1)), branch([[1, 0, 20]], same(1)), branch([[0, 0, 90]], [1, 0, 1]))
        self.assertEqual(last(three, claims([-1, 0, -4]), shown(2, 0)), [1, 1, 0, 1])
        self.assertEqual(last(down, claims([-1, 0, -4]), shown(2, 0)), [1, 1, 2, 1])
        self.assertEqual(last(up, claims([1, 0, 20]), shown(2, 0)), [1, 1, 3, 1])

    def test_branches_behind_are_not_usable(self):
        two = loops(1, branch([], [1, 0, -1]), branch([[0, 0, 9]], same(1)))
        self.assertEqual(last(two, claims([-1, 0, -9]), shown(0, 0)), [0])

    def test_a_branch_is_not_ahead_of_itself(self):
        self.assertEqual(last(loops(1, branch([[0, 0, 9]], [1, 0, -1])), claims([-1, 0, -9]), shown(0, 0)), [0])

    def test_edge_of_numbers(self):
        self.assertEqual(self.second([[0, 0, 999999]], [-1, 0, -999999], [1, 0, -1]), [1, 1, 1, 1])
