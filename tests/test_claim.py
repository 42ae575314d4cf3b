import unittest

from tests.helper import CHECK, HUGE, TRIM, ask, branch, claim, claims, holds, last, loops, same

TWO = loops(2, branch([], same(2)))
# A fact of each kind about two counters.
GOOD = [3, -2, 1, 1, 0, 1, 0, 0, 10, 0, 1, 2, 2, 0]


def answer(numbers):
    return last(TWO, claim(numbers))


class ClaimTaken(unittest.TestCase):
    def test_answers_how_many_facts(self):
        for size in range(7):
            self.assertEqual(last(claims(*[[1, 0, 5]] * size)), [size])

    def test_longest_claim(self):
        four = loops(4, branch([], same(4)))
        self.assertEqual(last(four, claims(*[[5, -5, 5, -5, 2, 6, 5]] * 6)), [6])

    def test_edges_of_times(self):
        for times in (-5, 5, 0):
            self.assertEqual(answer([1, times, 0, 0, 1]), [1])
            self.assertEqual(answer([1, 0, times, 2, 2, 1]), [1])
        for times in (-6, 6, HUGE, -HUGE):
            self.assertEqual(answer([1, times, 0, 0, 1]), [-1])
            self.assertEqual(answer([1, 0, times, 2, 2, 1]), [-1])

    def test_edges_of_numbers(self):
        for kind in (0, 1):
            for number in (-999999, 999999):
                self.assertEqual(answer([1, 1, 1, kind, number]), [1])
            for number in (-1000000, 1000000, HUGE, -HUGE):
                self.assertEqual(answer([1, 1, 1, kind, number]), [-1])

    def test_remainders(self):
        for m in (2, 3, 4, 6):
            for r in range(m):
                self.assertEqual(answer([1, 1, 1, 2, m, r]), [1])
            for r in (-1, m, HUGE, -HUGE):
                self.assertEqual(answer([1, 1, 1, 2, m, r]), [-1])
        for m in (-6, -2, -1, 0, 1, 5, 7, 8, 12, HUGE, -HUGE):
            for r in (0, -1):
                self.assertEqual(answer([1, 1, 1, 2, m, r]), [-1])

    def test_takes_the_place_of_the_one_before(self):
        answers = ask(claims([1, 0, 5], [1, 0, 7]), holds(6), claims([1, 0, 6]), holds(6), holds(7), claims(), holds(7))
        self.assertEqual(answers, [[2], [0, 0], [1], [1], [0, 0], [0], [1]])


class ClaimRefused(unittest.TestCase):
    def test_too_short(self):
        self.assertEqual(answer(GOOD), [3])
        for size in range(len(GOOD)):
            self.assertEqual(answer(GOOD[:size]), [-1])

    def test_too_long(self):
        for more in ([0], [1], GOOD):
            self.assertEqual(answer(GOOD + more), [-1])
        self.assertEqual(answer([0, 0]), [-1])

    def test_how_many_facts(self):
        self.assertEqual(last(claims(*[[1, 0, 5]] * 7)), [-1])
        for size in (-1, HUGE, -HUGE):
            self.assertEqual(answer([size]), [-1])

    def test_what_is_said(self):
        for kind in (-1, 3, HUGE, -HUGE):
            self.assertEqual(answer([1, 1, 1, kind, 5]), [-1])
            self.assertEqual(answer([1, 1, 1, kind, 2, 1]), [-1])

    def test_other_counters(self):
        self.assertEqual(answer([1, 1, 0, 5]), [-1])
        self.assertEqual(answer([1, 1, 1, 1, 0, 5]), [-1])
        self.assertEqual(last(claim([1, 1, 1, 0, 5])), [-1])

    def test_leaves_the_claim_as_it_was(self):
        for refused in ([], [7], [1, 6, 0, 5], [1, 1, 0, 1000000], [1, 1, 2, 5, 0], [2, 1, 0, 9], [1, 1, 0, 9, 9]):
            answers = ask(claims([1, 0, 5], [-1, 0, 0]), claim(refused), holds(5), holds(6), holds(-1), CHECK, TRIM)
            self.assertEqual(answers, [[2], [-1], [1], [0, 0], [0, 1], [1], [2, 0, 1]])
