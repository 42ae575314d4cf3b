import unittest

from tests.helper import CHECK, HUGE, TRIM, ask, at_end, branch, claims, goal, holds, last, loops, same

# At the end of the first one something can be said, at the second one's nothing.
SAID = loops(2, branch([[0, 0, 9]], [1, 0, 1, 1, 1, 2]))
UNSAID = loops(2, branch([], same(2)))

GOOD = [1, -2, 0, 5], [1, -2, 1, 5], [1, -2, 2, 4, 3]
NOT_WHOLE = [
    [1], [1, -2], [1, 0, 5], [1, 2, 2, 0], [1, -2, 3, 0, 5], [1, 1, 1, 0, 5], [1, 1, -2, 0, 5],
    [1, -2, -1, 5], [1, -2, 3, 5], [1, -2, HUGE, 5], [1, -2, -HUGE, 5],
    [6, 0, 0, 5], [-6, 0, 0, 5], [0, 6, 0, 5], [0, -6, 1, 5], [0, 6, 2, 2, 1], [HUGE, 0, 0, 5], [0, -HUGE, 0, 5],
    [1, 0, 0, 1000000], [1, 0, 0, -1000000], [1, 0, 1, 1000000], [1, 0, 1, -1000000], [1, 0, 0, HUGE], [1, 0, 1, -HUGE],
    [1, 0, 2, 5, 0], [1, 0, 2, 1, 0], [1, 0, 2, 0, 0], [1, 0, 2, -2, 0], [1, 0, 2, 8, 0], [1, 0, 2, HUGE, 0],
    [1, 0, 2, 2, 2], [1, 0, 2, 3, 3], [1, 0, 2, 4, 4], [1, 0, 2, 6, 6], [1, 0, 2, 6, -1], [1, 0, 2, 6, HUGE],
    [0] * 10, [1, 1, 0, 0, 5], [1, 1, 0, 1, 0, 5],
]


class Refused(unittest.TestCase):
    def both(self, fact):
        return ask(SAID, goal(*fact), at_end(*fact))[1:]

    def test_not_whole(self):
        for fact in NOT_WHOLE:
            self.assertEqual(self.both(fact), [[-1], [-1]], fact)

    def test_too_short_or_too_long(self):
        for fact in GOOD:
            self.assertEqual(self.both(fact), [[0], [0]])
            for size in range(len(fact)):
                self.assertEqual(self.both(fact[:size]), [[-1], [-1]])
            for more in ([0], [1], fact):
                self.assertEqual(self.both(fact + more), [[-1], [-1]])

    def test_edges(self):
        for fact in ([5, -5, 0, 999999], [-5, 5, 1, -999999], [5, 5, 1, 999999], [1, 1, 2, 6, 5], [1, 1, 2, 3, 2],
                     [-5, -5, 0, -999999], [1, 1, 2, 2, 0], [1, 1, 2, 4, 3]):
            self.assertEqual(self.both(fact), [[0], [0]])

    def test_for_each_number_of_counters(self):
        for n in range(1, 5):
            loop = loops(n, branch([[0, 0, 9]], same(n)))
            for size in range(6):
                fact = [1] * size + [0, 5]
                # [1, 1, 0, 5] is whole of two counters alone, and so on.
                asked = [0] if size == n else [-1]
                self.assertEqual(ask(loop, goal(*fact), at_end(*fact))[1:], [asked, asked])

    def test_longest_fact(self):
        loop = loops(4, branch([[0, 0, 9]], same(4)))
        self.assertEqual(ask(loop, goal(5, -5, 5, -5, 2, 6, 5), at_end(5, -5, 5, -5, 2, 6, 5))[1:], [[0], [0]])

    def test_not_whole_ahead_of_nothing_said(self):
        for fact in NOT_WHOLE + [[]]:
            self.assertEqual(last(UNSAID, at_end(*fact)), [-1], fact)
        for fact in GOOD:
            self.assertEqual(last(UNSAID, at_end(*fact)), [-4])

    def test_goal_needs_no_end(self):
        self.assertEqual(last(UNSAID, claims([1, 0, 0, 5]), goal(1, 0, 0, 5)), [1, 1, 0, 1])


class NothingSaid(unittest.TestCase):
    # What is shown by no uses at all is refused, too.
    def told(self, *tests):
        return last(loops(1, *[branch(each, same(1)) for each in tests]), at_end(0, 0, 0))

    def test_wherever_the_branch_stands(self):
        for bad in ([], [[0, 0, 9]] * 2, [[0, 0, 9]] * 3, [[3, 0, 2, 1]], [[3, 0, 2, 1], [0, 0, 9]],
                    [[0, 0, 9], [3, 0, 2, 1]]):
            good = [[0, 0, 9]]
            self.assertEqual(self.told(bad), [-4])
            self.assertEqual(self.told(bad, good), [-4])
            self.assertEqual(self.told(good, bad), [-4])
            self.assertEqual(self.told(bad, good, good), [-4])
            self.assertEqual(self.told(good, bad, good), [-4])
            self.assertEqual(self.told(good, good, bad), [-4])
            self.assertEqual(self.told(bad, bad, bad), [-4])

    def test_one_test_each(self):
        for test in ([0, 0, 9], [1, 0, 9], [2, 0, 0, 9]):
            self.assertEqual(self.told([test]), [1, 0])
            self.assertEqual(self.told([test], [[0, 0, 3]]), [1, 0])
            self.assertEqual(self.told([[1, 0, 3]], [test], [[0, 0, 3]]), [1, 0])

    def test_whatever_the_claim(self):
        self.assertEqual(last(UNSAID, claims([1, 0, 0, 5]), at_end(1, 0, 0, 5)), [-4])


class Goal(unittest.TestCase):
    def told(self, facts, *fact):
        return last(SAID, claims(*facts), goal(*fact))

    def test_no_uses(self):
        self.assertEqual(self.told([], 0, 0, 0, 0), [1, 0])
        self.assertEqual(self.told([], 0, 0, 0, -1), [0])
        self.assertEqual(self.told([], 0, 0, 1, 0), [1, 0])
        self.assertEqual(self.told([], 0, 0, 1, 1), [0])
        self.assertEqual(self.told([], 4, -2, 2, 2, 0), [1, 0])
        self.assertEqual(self.told([], 4, -2, 2, 4, 0), [0])
        self.assertEqual(self.told([[0, 0, 0, 0]], 0, 0, 0, 0), [1, 0])

    def test_one_use(self):
        facts = [1, 0, 0, 5], [0, 1, 1, 3], [1, 1, 2, 6, 4]
        self.assertEqual(self.told(facts, 1, 0, 0, 5), [1, 1, 0, 1])
        self.assertEqual(self.told(facts, 1, 0, 0, 4), [0])
        self.assertEqual(self.told(facts, 2, 0, 0, 11), [1, 1, 0, 2])
        self.assertEqual(self.told(facts, 0, -1, 0, -3), [1, 1, 1, -1])
        self.assertEqual(self.told(facts, 0, -2, 1, -6), [1, 1, 1, -2])
        self.assertEqual(self.told(facts, 0, 1, 2, 2, 1), [1, 1, 1, 1])
        self.assertEqual(self.told(facts, 1, 1, 2, 3, 1), [1, 1, 2, 1])
        self.assertEqual(self.told(facts, -2, -2, 2, 6, 4), [1, 1, 2, -2])
        self.assertEqual(self.told(facts, 1, 1, 2, 4, 0), [0])

    def test_two_uses(self):
        facts = [1, 0, 0, 5], [0, 1, 1, 3], [-1, 1, 0, 2]
        self.assertEqual(self.told(facts, 1, -2, 0, -1), [1, 2, 0, 1, 1, -2])
        self.assertEqual(self.told(facts, 1, -2, 0, -2), [0])
        self.assertEqual(self.told(facts, -2, 3, 0, 7), [1, 2, 1, 1, 2, 2])
        self.assertEqual(self.told(facts, -1, 2, 0, 5), [1, 2, 1, 1, 2, 1])

    def test_not_by_three_uses(self):
        facts = [1, 0, 0, 5], [0, 1, 0, 5], [-1, 2, 0, 2]
        self.assertEqual(self.told(facts, 0, 3, 0, 50), [0])

    def test_the_fact_itself_not_what_is_ahead_of_a_move(self):
        self.assertEqual(self.told([[1, 0, 1, 5]], 1, 0, 1, 5), [1, 1, 0, 1])
        self.assertEqual(self.told([[1, 0, 1, 5]], 1, 0, 1, 6), [0])

    def test_from_the_claim_alone(self):
        self.assertEqual(self.told([], 1, 0, 0, 9), [0])
        self.assertEqual(self.told([], -1, 0, 0, -10), [0])

    def test_the_first_fact_goes_first(self):
        self.assertEqual(self.told([[1, 0, 0, 9], [1, 0, 0, 5], [1, 0, 0, 5]], 1, 0, 0, 6), [1, 1, 1, 1])


class AtTheEnd(unittest.TestCase):
    def one(self, test, *fact):
        n = len(fact) - 2
        return last(loops(n, branch([test], same(n))), at_end(*fact))

    def test_at_most(self):
        self.assertEqual(self.one([0, 0, 9], -1, 0, -10), [1, 1, 0, 1])
        self.assertEqual(self.one([0, 0, 9], -1, 0, -9), [1, 1, 0, 1])
        self.assertEqual(self.one([0, 0, 9], -1, 0, -11), [0])
        self.assertEqual(self.one([0, 0, 9], -2, 0, -20), [1, 1, 0, 2])

    def test_at_least(self):
        self.assertEqual(self.one([1, 0, 5], 1, 0, 4), [1, 1, 0, 1])
        self.assertEqual(self.one([1, 0, 5], 1, 0, 3), [0])
        self.assertEqual(self.one([1, 0, -5], 1, 0, -6), [1, 1, 0, 1])

    def test_below(self):
        self.assertEqual(self.one([2, 0, 1, 3], -1, 1, 0, -4), [1, 1, 0, 1])
        self.assertEqual(self.one([2, 0, 1, 3], -1, 1, 0, -5), [0])
        self.assertEqual(self.one([2, 1, 0, -3], 1, -1, 0, 2), [1, 1, 0, 1])
        self.assertEqual(self.one([2, 1, 0, -3], 1, -1, 0, 1), [0])

    def test_below_of_one_counter_with_itself(self):
        self.assertEqual(self.one([2, 0, 0, 0], 0, 0, -1), [1, 1, 0, 1])
        self.assertEqual(self.one([2, 0, 0, 0], 0, 0, -2), [1, 1, 0, 2])
        self.assertEqual(self.one([2, 0, 0, 0], 0, 0, -3), [0])
        self.assertEqual(self.one([2, 0, 0, -1], 0, 0, -1), [0])

    def test_edges_of_numbers(self):
        self.assertEqual(self.one([0, 0, 999999], -1, 0, -999999), [1, 1, 0, 1])
        self.assertEqual(self.one([1, 0, -999999], 1, 0, -999999), [1, 1, 0, 1])

    def test_where_it_holds_is_not_usable(self):
        self.assertEqual(self.one([0, 0, 9], 1, 0, 9), [0])
        self.assertEqual(self.one([1, 0, 5], -1, 0, -5), [0])

    def test_nothing_else_than_at_most_is_shown(self):
        self.assertEqual(self.one([2, 0, 0, 0], 0, 1, -1), [0])

    def test_no_uses(self):
        self.assertEqual(last(SAID, at_end(0, 0, 0, 0)), [1, 0])
        self.assertEqual(last(SAID, at_end(0, 0, 1, 0)), [1, 0])
        self.assertEqual(last(SAID, at_end(2, 4, 2, 2, 0)), [1, 0])
        self.assertEqual(last(SAID, at_end(0, 0, 0, -1)), [0])

    def test_numbered_behind_the_claim_in_the_branches_order(self):
        three = loops(2, branch([[0, 0, 9]], same(2)), branch([[1, 1, 5]], same(2)), branch([[2, 0, 1, 3]], same(2)))
        for facts in ([], [[1, 1, 0, 50]], [[1, 1, 0, 50], [5, 5, 1, 3], [1, 0, 2, 2, 1]]):
            answers = ask(three, claims(*facts), at_end(-1, 0, 0, -10), at_end(0, 1, 0, 4), at_end(-1, 1, 0, -4))
            size = len(facts)
            self.assertEqual(answers[2:], [[1, 1, size, 1], [1, 1, size + 1, 1], [1, 1, size + 2, 1]])

    def test_the_claim_goes_first(self):
        self.assertEqual(last(SAID, claims([0, 1, 0, 3], [-1, 0, 0, -10]), at_end(-1, 0, 0, -10)), [1, 1, 1, 1])
        self.assertEqual(last(SAID, claims([0, 1, 0, 3], [-1, 0, 0, -9]), at_end(-1, 0, 0, -10)), [1, 1, 2, 1])

    def test_the_claim_is_usable(self):
        self.assertEqual(last(SAID, claims([0, 1, 0, 3]), at_end(0, 2, 0, 6)), [1, 1, 0, 2])
        self.assertEqual(last(SAID, claims([1, 0, 1, 3]), at_end(-1, 0, 1, -3)), [1, 1, 0, -1])
        self.assertEqual(last(SAID, claims([0, 1, 2, 6, 5]), at_end(0, 1, 2, 3, 2)), [1, 1, 0, 1])

    def test_two_uses(self):
        # 1 is twice 0, and 0 at least 10: 1 is at least 20.
        self.assertEqual(last(SAID, claims([-2, 1, 1, 0]), at_end(0, -1, 0, -20)), [1, 2, 0, -1, 1, 2])
        self.assertEqual(last(SAID, claims([-2, 1, 1, 0]), at_end(0, -1, 0, -21)), [0])
        self.assertEqual(last(SAID, claims([1, 0, 0, 9]), at_end(0, 0, 0, -1)), [1, 2, 0, 1, 1, 1])

    def test_two_branches(self):
        two = loops(2, branch([[0, 0, 9]], same(2)), branch([[1, 1, 5]], same(2)))
        self.assertEqual(last(two, at_end(-1, 1, 0, -6)), [1, 2, 0, 1, 1, 1])
        self.assertEqual(last(two, at_end(-2, 1, 0, -16)), [1, 2, 0, 2, 1, 1])
        self.assertEqual(last(two, at_end(-1, 1, 0, -7)), [0])

    def test_the_fact_itself_not_what_is_ahead_of_a_move(self):
        self.assertEqual(last(SAID, claims([0, 1, 1, 5]), at_end(0, 1, 1, 5)), [1, 1, 0, 1])
        self.assertEqual(last(SAID, claims([0, 1, 1, 5]), at_end(0, 1, 1, 7)), [0])


class Both(unittest.TestCase):
    def test_nothing_changes(self):
        asked = [goal(0, 1, 0, 5), at_end(0, 1, 0, 5), holds(9, 9), CHECK, TRIM]
        answers = ask(SAID, claims([0, 1, 0, 5]), *asked, goal(), at_end(), goal(1, 0, 0, 3), at_end(-1, 0, 0, 3),
                      *asked)
        first = [[1, 1, 0, 1], [1, 1, 0, 1], [0, 0], [0, 0, 0], [0]]
        self.assertEqual(answers[2:], first + [[-1], [-1], [0], [1, 1, 1, 1]] + first)

    def test_at_a_lines_beginning(self):
        self.assertEqual(ask(goal(1, 0, 5), goal(0, 0, 5), goal(1, 1, 0, 5), goal(4, 2, 4, 0), goal()),
                         [[0], [1, 0], [-1], [1, 0], [-1]])
        self.assertEqual(ask(at_end(1, 0, 5), at_end(0, 0, 5), at_end(1, 1, 0, 5), at_end()), [[-4], [-4], [-1], [-1]])
