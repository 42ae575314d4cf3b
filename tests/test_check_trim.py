import unittest

from loopclaimsdesk.desk import Desk
from loopclaimsdesk.facts import AT_MOST
from tests.helper import CHECK, TRIM, ask, branch, claims, holds, last, loops, same, shown

# Counter 0 gets 1's old value, 1 gets 2's, 2 is one more; 3 stays as it is.
CHAIN = loops(4, branch([], [1, 1, 0, 1, 2, 0, 1, 2, 1, 1, 3, 0]))
FIRST, SECOND, THIRD, FOURTH = [1, 0, 0, 0, 0, 5], [0, 1, 0, 0, 0, 5], [0, 0, 1, 0, 0, 5], [0, 0, 0, 1, 0, 5]

# Two tests each, so that neither says anything for a branch behind it.
UP = branch([[0, 0, 9], [1, 0, -50]], [1, 0, 1])
DOWN = branch([[1, 0, 1], [0, 0, 50]], [1, 0, -1])


class Check(unittest.TestCase):
    def test_kept(self):
        self.assertEqual(last(loops(1, UP), claims([1, 0, 10], [-1, 0, 0]), CHECK), [1])
        self.assertEqual(last(loops(1, UP, DOWN), claims([1, 0, 10], [-1, 0, 0]), CHECK), [1])

    def test_not_kept(self):
        self.assertEqual(last(loops(1, UP), claims([1, 0, 9]), CHECK), [0, 0, 0])

    def test_first_fact(self):
        self.assertEqual(last(loops(1, UP), claims([-1, 0, 0], [1, 0, 11], [1, 0, 10], [1, 0, 9], [1, 2, 2, 0]), CHECK),
                         [0, 0, 3])

    def test_first_branch(self):
        self.assertEqual(last(loops(1, UP, DOWN), claims([1, 0, 10], [-1, 0, -1]), CHECK), [0, 1, 1])
        self.assertEqual(last(loops(1, branch([], same(1)), UP, DOWN), claims([-1, 0, -1], [1, 0, 9]), CHECK),
                         [0, 1, 1])

    def test_branch_ahead_of_fact(self):
        # The second branch does not keep the first fact, but the first branch goes first with the second fact.
        self.assertEqual(last(loops(1, UP, DOWN), claims([-1, 0, -1], [1, 0, 9]), CHECK), [0, 0, 1])

    def test_claim_without_facts(self):
        self.assertEqual(last(loops(1, UP), CHECK), [1])

    def test_all_facts_of_the_claim_are_usable_for_each(self):
        self.assertEqual(last(CHAIN, claims(FIRST, SECOND), CHECK), [0, 0, 1])
        self.assertEqual(last(CHAIN, claims(SECOND, FIRST), CHECK), [0, 0, 0])


class Trim(unittest.TestCase):
    def test_kept(self):
        self.assertEqual(last(loops(1, UP), claims([1, 0, 10], [-1, 0, 0]), TRIM), [2, 0, 1])

    def test_all_go(self):
        self.assertEqual(last(loops(1, UP), claims([1, 0, 9], [1, 1, 9]), TRIM), [0])

    def test_told_by_the_numbers_in_the_claim_rising(self):
        facts = [1, 0, 9], [-1, 0, 0], [1, 1, 4], [1, 0, 10], [1, 2, 2, 0], [1, 0, 50]
        self.assertEqual(last(loops(1, UP), claims(*facts), TRIM), [3, 1, 3, 5])

    def test_what_some_branch_does_not_keep_goes(self):
        self.assertEqual(last(loops(1, UP, DOWN), claims([-1, 0, -1], [1, 0, 10], [1, 0, 9]), TRIM), [1, 1])
        self.assertEqual(last(loops(1, DOWN, UP), claims([-1, 0, -1], [1, 0, 10], [1, 0, 9]), TRIM), [1, 1])

    def test_more_than_once(self):
        # Without the third fact the second one goes, and without that the first one.
        self.assertEqual(last(CHAIN, claims(FIRST, SECOND, THIRD, FOURTH), TRIM), [1, 3])
        self.assertEqual(last(CHAIN, claims(THIRD, FOURTH, FIRST, SECOND), TRIM), [1, 1])
        self.assertEqual(last(CHAIN, claims(SECOND, FIRST), TRIM), [0])

    def test_facts_that_keep_one_another(self):
        swap = loops(2, branch([], [1, 1, 0, 1, 0, 0]))
        self.assertEqual(last(swap, claims([1, 0, 0, 5], [0, 1, 0, 5], [0, 1, 0, 4]), TRIM), [2, 0, 1])
        self.assertEqual(last(swap, claims([1, 0, 0, 5], [0, 1, 0, 6]), TRIM), [0])

    def test_claim_without_facts(self):
        self.assertEqual(last(loops(1, UP), TRIM), [0])


class NothingChanges(unittest.TestCase):
    def test_by_check_and_trim(self):
        asked = [CHECK, TRIM, holds(0, 0, 9, 0), shown(0, 1), shown(0, 2)]
        answers = ask(CHAIN, claims(FIRST, SECOND, THIRD, FOURTH), *asked, *asked)
        self.assertEqual(answers[2:7], [[0, 0, 2], [1, 3], [0, 2], [1, 1, 2, 1], [0]])
        self.assertEqual(answers[7:], answers[2:7])

    def test_by_holds_and_shown(self):
        answers = ask(loops(1, UP), claims([1, 0, 10]), holds(11), shown(0, 0), shown(5, 0), holds(), CHECK, holds(11))
        self.assertEqual(answers[2:], [[0, 0], [1, 1, 1, 1], [-2], [-5], [1], [0, 0]])


class AtALinesBeginning(unittest.TestCase):
    def test_claim_without_facts(self):
        self.assertEqual(ask(CHECK, TRIM, holds(7), shown(0, 0)), [[1], [0], [1], [-3]])

    def test_one_counter(self):
        self.assertEqual(ask(holds(), holds(0), holds(0, 0)), [[-5], [1], [-5]])

    def test_one_branch_that_leaves_the_value(self):
        answers = ask(claims([1, 0, 5], [1, 1, -3], [1, 2, 6, 5]), CHECK, TRIM, shown(0, 1), shown(0, 2), shown(1, 0))
        self.assertEqual(answers, [[3], [1], [3, 0, 1, 2], [1, 1, 1, 1], [1, 1, 2, 1], [-2]])

    def test_the_branch_is_never_chosen(self):
        # Answers tell that they never hold together, but not the tests: the claim's own facts always go first.
        told = [(test.times, test.kind, test.number) for test in Desk().branches[0].tests]
        self.assertEqual(told, [([1], AT_MOST, -1), ([-1], AT_MOST, 0)])
