import unittest

from tests.helper import CHECK, HUGE, TRIM, ask, branch, claims, holds, last, loop, loops, same, shown

# One branch with a test of each of three kinds, two counters.
GOOD = [1, 3, 0, 0, 9, 1, 1, -3, 2, 0, 1, 4, 1, 0, 1, 0, 7]


def answer(n, numbers):
    return last(loop(n, numbers))


class LoopTaken(unittest.TestCase):
    def test_answers_how_many_branches(self):
        for size in (1, 2, 3):
            self.assertEqual(last(loops(1, *[branch([], same(1))] * size)), [size])

    def test_one_to_four_counters(self):
        for n in (1, 2, 3, 4):
            self.assertEqual(last(loops(n, branch([], same(n)))), [1])

    def test_none_to_three_tests(self):
        for size in (0, 1, 2, 3):
            self.assertEqual(last(loops(1, branch([[0, 0, 5]] * size, same(1)))), [1])

    def test_longest_loop(self):
        tests = [[2, 3, 0, 999999], [3, 3, 6, 5], [2, 0, 3, -999999]]
        move = [1, 3, 99, 1, 2, -99, 1, 1, 99, 1, 0, -99]
        self.assertEqual(last(loops(4, *[branch(tests, move)] * 3)), [3])

    def test_edges_of_a_moves_numbers(self):
        for number in (-99, 99):
            self.assertEqual(answer(1, [1, 0, 0, number]), [1])
            self.assertEqual(answer(1, [1, 0, 1, 0, number]), [1])
        for number in (-100, 100, -HUGE, HUGE):
            self.assertEqual(answer(1, [1, 0, 0, number]), [-1])
            self.assertEqual(answer(1, [1, 0, 1, 0, number]), [-1])

    def test_edges_of_a_tests_numbers(self):
        for told in ([0, 0], [1, 0], [2, 0, 1], [2, 1, 1]):
            for number in (-999999, 999999):
                self.assertEqual(last(loops(2, branch([told + [number]], same(2)))), [1])
            for number in (-1000000, 1000000, -HUGE, HUGE):
                self.assertEqual(last(loops(2, branch([told + [number]], same(2)))), [-1])

    def test_remainders_of_tests(self):
        for m in (2, 3, 4, 6):
            for r in range(m):
                self.assertEqual(last(loops(1, branch([[3, 0, m, r]], same(1)))), [1])
            for r in (-1, m, HUGE, -HUGE):
                self.assertEqual(last(loops(1, branch([[3, 0, m, r]], same(1)))), [-1])
        for m in (-6, -2, -1, 0, 1, 5, 7, 8, 12, HUGE, -HUGE):
            for r in (0, -1):
                self.assertEqual(last(loops(1, branch([[3, 0, m, r]], same(1)))), [-1])

    def test_below_of_one_counter_with_itself(self):
        self.assertEqual(last(loops(1, branch([[2, 0, 0, 5]], same(1)))), [1])

    def test_claim_is_empty_from_then_on(self):
        answers = ask(claims([1, 0, 5]), loop(1, [1, 0, 1, 0, 1]), holds(9), CHECK, TRIM, shown(0, 0))
        self.assertEqual(answers, [[1], [1], [1], [1], [0], [-3]])

    def test_counters_are_n_from_then_on(self):
        answers = ask(loop(3, [1, 0] + same(3)), holds(1), holds(1, 2, 3), loop(2, GOOD), holds(1, 2, 3), holds(1, 2))
        self.assertEqual(answers, [[1], [-5], [1], [1], [-5], [1]])

    def test_branches_are_the_loops_from_then_on(self):
        three = loops(1, *[branch([], same(1))] * 3)
        answers = ask(three, claims([1, 0, 5]), shown(2, 0), shown(3, 0), loop(1, [1, 0, 0, 1]), shown(1, 0))
        self.assertEqual(answers, [[3], [1], [1, 1, 0, 1], [-2], [1], [-2]])


class LoopRefused(unittest.TestCase):
    def test_n(self):
        for n in (0, 5, -1, HUGE, -HUGE):
            self.assertEqual(answer(n, [1, 0, 0, 1]), [-2])

    def test_n_ahead_of_the_list(self):
        for n in (0, 5, -1, HUGE):
            self.assertEqual(answer(n, []), [-2])
            self.assertEqual(answer(n, [9, 9]), [-2])
        self.assertEqual(answer(4, [9, 9]), [-1])

    def test_too_short(self):
        self.assertEqual(answer(2, GOOD), [1])
        for size in range(len(GOOD)):
            self.assertEqual(answer(2, GOOD[:size]), [-1])

    def test_too_long(self):
        for more in ([0], [1], GOOD, [0] * 80):
            self.assertEqual(answer(2, GOOD + more), [-1])

    def test_another_n_than_the_lists(self):
        self.assertEqual(answer(1, [1, 0] + same(2)), [-1])
        self.assertEqual(answer(3, [1, 0] + same(2)), [-1])

    def test_how_many_branches(self):
        for size in (0, 4):
            self.assertEqual(last(loops(1, *[branch([], same(1))] * size)), [-1])
        for size in (-1, HUGE, -HUGE):
            self.assertEqual(answer(1, [size]), [-1])

    def test_how_many_tests(self):
        self.assertEqual(last(loops(1, branch([[0, 0, 5]] * 4, same(1)))), [-1])
        for size in (-1, HUGE, -HUGE):
            self.assertEqual(answer(1, [1, size] + same(1)), [-1])

    def test_what_kind_of_test(self):
        for kind in (-1, 4, HUGE, -HUGE):
            for rest in ([0, 5], [0, 0, 5], [0, 2, 1]):
                self.assertEqual(last(loops(1, branch([[kind] + rest], same(1)))), [-1])

    def test_counter_of_a_test_that_is_not_there(self):
        for n in (1, 2, 3, 4):
            for counter in (-1, n, HUGE, -HUGE):
                for test in ([0, counter, 5], [1, counter, 5], [2, counter, 0, 5], [2, 0, counter, 5],
                             [3, counter, 2, 1]):
                    self.assertEqual(last(loops(n, branch([test], same(n)))), [-1])

    def test_what_a_counter_is_given(self):
        for kind in (-1, 2, HUGE, -HUGE):
            self.assertEqual(answer(1, [1, 0, kind, 5]), [-1])
            self.assertEqual(answer(1, [1, 0, kind, 0, 5]), [-1])

    def test_counter_of_a_move_that_is_not_there(self):
        for n in (1, 2, 3, 4):
            for counter in (-1, n, HUGE, -HUGE):
                self.assertEqual(answer(n, [1, 0] + same(n - 1) + [1, counter, 5]), [-1])

    def test_a_later_branch(self):
        self.assertEqual(last(loops(1, branch([], same(1)), branch([], same(1)), [0, 0, 100])), [-1])
        self.assertEqual(last(loops(1, branch([], same(1)), branch([], same(1)), [0, 0])), [-1])

    def test_changes_nothing(self):
        two = loops(2, branch([[0, 0, 9]], [1, 0, 1, 1, 1, 2]), branch([], same(2)))
        for refused, why in ((loop(1, [1, 0, 0, 100]), -1), (loop(0, [1, 0, 0, 1]), -2), (loop(3, []), -1),
                             (loop(1, [1, 0, 0, 1, 1]), -1)):
            answers = ask(two, claims([1, 0, 0, 10]), refused, holds(11, 0), holds(11), shown(0, 0), shown(1, 0), TRIM)
            self.assertEqual(answers, [[2], [1], [why], [0, 0], [-5], [1, 1, 1, 1], [1, 1, 0, 1], [1, 0]])
