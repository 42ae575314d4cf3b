import unittest

from tests.helper import (
    CHECK, TRIM, USE, ahead, ask, at_end, branch, broken, claim, claims, goal, holds, last, loops, run, same, shown)

# Counter 0 gets 1's old value, 1 gets 2's, 2 is one more; 3 stays as it is.
CHAIN = loops(4, branch([], [1, 1, 0, 1, 2, 0, 1, 2, 1, 1, 3, 0]))
FIRST, SECOND, THIRD, FOURTH = [1, 0, 0, 0, 0, 5], [0, 1, 0, 0, 0, 5], [0, 0, 1, 0, 0, 5], [0, 0, 0, 1, 0, 5]

# While 0 is at most 9 it's one more, 1 two more: the first fact of these goes.
PAIR = loops(2, branch([[0, 0, 9]], [1, 0, 1, 1, 1, 2]))
GOES = [0, 1, 0, 5]
STAY = [1, 0, 0, 10], [-1, 0, 0, 0], [-2, 1, 1, 0]


def after_use(*calls):
    """What these calls answer behind the use by which the first fact goes."""
    return ask(PAIR, claims(GOES, *STAY), USE, *calls)[3:]


class Told(unittest.TestCase):
    def test_each_kind(self):
        stays = loops(2, branch([], same(2)))
        self.assertEqual(last(stays, claims([-2, 1, 0, 7]), USE), [1, -2, 1, 0, 7])
        self.assertEqual(last(stays, claims([-2, 1, 1, -7]), USE), [1, -2, 1, 1, -7])
        self.assertEqual(last(stays, claims([-2, 1, 2, 4, 3]), USE), [1, -2, 1, 2, 4, 3])

    def test_several_in_order(self):
        facts = [5, -5, 2, 6, 5], [0, 0, 0, 999999], [0, 0, 1, 0], [1, 2, 2, 2, 0], [-5, 5, 1, -999999], [1, 1, 0, -1]
        self.assertEqual(last(loops(2, branch([], same(2))), claims(*facts), USE), [6] + sum(facts, []))

    def test_for_each_number_of_counters(self):
        for n in range(1, 5):
            fact = [1, -2, 3, -4][:n] + [2, 3, 1]
            self.assertEqual(last(loops(n, branch([], same(n))), claims(fact, fact), USE), [2] + fact + fact)

    def test_what_stays(self):
        self.assertEqual(last(PAIR, claims(GOES, *STAY), USE), [3] + sum(STAY, []))
        self.assertEqual(last(PAIR, claims(STAY[0], GOES, STAY[1], GOES, STAY[2]), USE), [3] + sum(STAY, []))

    def test_kept_whole(self):
        self.assertEqual(last(PAIR, claims(*STAY), USE), [3] + sum(STAY, []))

    def test_trimmed_more_than_once(self):
        self.assertEqual(last(CHAIN, claims(FIRST, SECOND, THIRD, FOURTH), USE), [1] + FOURTH)
        self.assertEqual(last(CHAIN, claims(FOURTH, THIRD, SECOND, FIRST), USE), [1] + FOURTH)

    def test_trimmed_to_nothing(self):
        self.assertEqual(ask(CHAIN, claims(FIRST, SECOND), USE, holds(9, 9, 9, 9), USE)[2:], [[0], [1], [0]])

    def test_claim_without_facts(self):
        self.assertEqual(ask(PAIR, USE, CHECK), [[1], [0], [1]])

    def test_at_a_lines_beginning(self):
        self.assertEqual(ask(USE, claims([1, 1, 3], [1, 2, 2, 0]), USE), [[0], [2], [2, 1, 1, 3, 1, 2, 2, 0]])


class TheClaimFromThenOn(unittest.TestCase):
    def test_holds(self):
        self.assertEqual(last(PAIR, claims(GOES, *STAY), holds(3, 6)), [0, 0])
        self.assertEqual(after_use(holds(3, 6), holds(3, 7), holds(11, 22)), [[1], [0, 2], [0, 0]])

    def test_shown(self):
        self.assertEqual(last(PAIR, claims(GOES, *STAY), shown(0, 1)), [1, 1, 4, 1])
        self.assertEqual(after_use(shown(0, 0), shown(0, 2), shown(0, 3)), [[1, 1, 3, 1], [1, 1, 2, 1], [-3]])

    def test_check_and_trim(self):
        self.assertEqual(ask(PAIR, claims(GOES, *STAY), CHECK, TRIM)[2:], [[0, 0, 0], [3, 1, 2, 3]])
        self.assertEqual(after_use(CHECK, TRIM), [[1], [3, 0, 1, 2]])

    def test_use(self):
        self.assertEqual(after_use(USE, USE), [[3] + sum(STAY, [])] * 2)

    def test_broken(self):
        self.assertEqual(last(PAIR, claims(GOES, *STAY), broken(0, 4)), [0, 0, 0, 2, 4])
        self.assertEqual(after_use(broken(0, 4)), [[1]])

    def test_goal(self):
        self.assertEqual(last(PAIR, claims(GOES, *STAY), goal(*GOES)), [1, 1, 0, 1])
        self.assertEqual(after_use(goal(*GOES), goal(*STAY[0])), [[0], [1, 1, 0, 1]])

    def test_at_end(self):
        self.assertEqual(last(PAIR, claims(GOES, *STAY), at_end(-1, 0, 0, -10)), [1, 1, 4, 1])
        self.assertEqual(after_use(at_end(-1, 0, 0, -10), at_end(*GOES)), [[1, 1, 3, 1], [0]])

    def test_run(self):
        self.assertEqual(last(PAIR, claims(GOES, *STAY), run(3, 0, 0)), [2, 3, 3, 6, 0, 1, 1, 1])
        self.assertEqual(after_use(run(3, 0, 0)), [[2, 3, 3, 6, 1, 1, 1]])

    def test_ahead(self):
        self.assertEqual(last(PAIR, claims(GOES, *STAY), ahead(0, 0)), [0, 0, 1, 0, 3])
        self.assertEqual(after_use(ahead(0, 0), ahead(0, 3)), [[0, 1, 0, 0, 9], [-3]])

    def test_until_the_next_claim_or_loop(self):
        self.assertEqual(after_use(claim([9]), holds(11, 22)), [[-1], [0, 0]])
        self.assertEqual(after_use(claims(GOES), holds(11, 2), goal(*GOES)), [[1], [1], [1, 1, 0, 1]])
        self.assertEqual(after_use(PAIR, holds(11, 22), USE), [[1], [1], [0]])

    def test_the_loop_stays(self):
        self.assertEqual(after_use(run(20, 0, 0), holds(1)), [[0, 10, 10, 20, 1, 1, 1], [-5]])
