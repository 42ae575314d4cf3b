import unittest

from tests.helper import HUGE, ask, branch, claims, holds, last, loops, same

TWO = loops(2, branch([], same(2)))


def answer(facts, *values):
    n = len(values)
    return last(loops(n, branch([], same(n))), claims(*facts), holds(*values))


class HoldsRefused(unittest.TestCase):
    def test_too_few_or_too_many(self):
        for values in ((), (1,), (1, 2, 3), (0,) * 10):
            self.assertEqual(last(TWO, holds(*values)), [-5])
        self.assertEqual(last(TWO, holds(1, 2)), [1])

    def test_beyond(self):
        for value in (1000001, -1000001, HUGE, -HUGE):
            self.assertEqual(last(TWO, holds(value, 0)), [-5])
            self.assertEqual(last(TWO, holds(0, value)), [-5])

    def test_edges(self):
        self.assertEqual(last(TWO, holds(1000000, -1000000)), [1])
        self.assertEqual(last(TWO, claims([1, 1, 1, 0]), holds(-1000000, 1000000)), [1])

    def test_whatever_the_claim(self):
        self.assertEqual(last(TWO, claims([1, 1, 0, -5]), holds(1)), [-5])


class Holds(unittest.TestCase):
    def test_at_most(self):
        self.assertEqual(answer([[3, -2, 0, 5]], 3, 2), [1])
        self.assertEqual(answer([[3, -2, 0, 5]], -9, 2), [1])
        self.assertEqual(answer([[3, -2, 0, 5]], 4, 3), [0, 0])

    def test_just(self):
        self.assertEqual(answer([[3, -2, 1, 5]], 3, 2), [1])
        self.assertEqual(answer([[3, -2, 1, 5]], 3, 3), [0, 0])
        self.assertEqual(answer([[3, -2, 1, 5]], 4, 3), [0, 0])

    def test_remainder(self):
        for m in (2, 3, 4, 6):
            for r in range(m):
                self.assertEqual(answer([[1, 2, m, r]], 60 + r), [1])
                self.assertEqual(answer([[1, 2, m, r]], 60 + r + 1), [0, 0])

    def test_remainder_of_sums_below_0(self):
        self.assertEqual(answer([[1, 2, 3, 2]], -1), [1])
        self.assertEqual(answer([[1, 2, 3, 1]], -1), [0, 0])
        self.assertEqual(answer([[-5, 1, 2, 6, 5]], 5, 0), [1])
        self.assertEqual(answer([[-5, 1, 2, 6, 1]], 5, 0), [0, 0])
        self.assertEqual(answer([[1, 2, 4, 0]], -8), [1])

    def test_all_counters_with_their_times(self):
        self.assertEqual(answer([[1, 2, -3, 5, 1, 13]], 1, 2, 4, 4), [1])
        self.assertEqual(answer([[1, 2, -3, 5, 1, 13]], 2, 1, 4, 4), [0, 0])

    def test_large_sums(self):
        self.assertEqual(answer([[5, -5, 1, 999999]], 1000000, -1000000), [0, 0])
        self.assertEqual(answer([[5, 5, 0, -999999]], -1000000, -1000000), [1])

    def test_first_fact_that_does_not_hold(self):
        facts = [[1, 0, 5], [1, 2, 2, 0], [-1, 0, 0], [1, 1, 4]]
        self.assertEqual(answer(facts, 4), [1])
        self.assertEqual(answer(facts, 2), [0, 3])
        self.assertEqual(answer(facts, -2), [0, 2])
        self.assertEqual(answer(facts, -1), [0, 1])
        self.assertEqual(answer(facts, 7), [0, 0])

    def test_claim_without_facts(self):
        self.assertEqual(ask(holds(5), claims(), holds(-5)), [[1], [0], [1]])
