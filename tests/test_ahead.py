import unittest

from tests.helper import CHECK, HUGE, TRIM, ahead, ask, branch, claims, holds, last, loops, same


def told(move, times, said):
    """What has to be so ahead of this move, for the fact with these times to hold behind it."""
    return last(loops(len(times), branch([], move)), claims(times + said), ahead(0, 0))


class AheadRefused(unittest.TestCase):
    TWO = loops(1, branch([], same(1)), branch([], same(1)))

    def test_no_such_branch(self):
        for number in (-1, 2, HUGE, -HUGE):
            self.assertEqual(last(self.TWO, claims([1, 0, 5]), ahead(number, 0)), [-2])

    def test_no_such_fact(self):
        for number in (-1, 1, HUGE, -HUGE):
            for place in (0, 1):
                self.assertEqual(last(self.TWO, claims([1, 0, 5]), ahead(place, number)), [-3])
        self.assertEqual(last(self.TWO, ahead(0, 0)), [-3])

    def test_branch_ahead_of_fact(self):
        for number in (-1, 1, HUGE, -HUGE):
            self.assertEqual(last(self.TWO, claims([1, 0, 5]), ahead(2, number)), [-2])
            self.assertEqual(last(self.TWO, claims([1, 0, 5]), ahead(-1, number)), [-2])


class Ahead(unittest.TestCase):
    def test_each_kind(self):
        self.assertEqual(told([1, 0, 3], [2], [0, 9]), [0, 2, 0, 3])
        self.assertEqual(told([1, 0, 3], [2], [1, 9]), [0, 2, 1, 3])
        self.assertEqual(told([1, 0, 3], [2], [2, 6, 5]), [0, 2, 2, 6, 5])
        self.assertEqual(told([1, 0, 3], [1], [2, 6, 5]), [0, 1, 2, 6, 2])

    def test_an_old_value_given_to_several(self):
        self.assertEqual(told([1, 0, 0, 1, 0, 0, 1, 0, 0], [1, 2, -4], [0, 9]), [0, -1, 0, 0, 0, 9])
        self.assertEqual(told([1, 2, 1, 1, 0, 2, 1, 2, 3], [5, 2, 4], [1, 9]), [0, 2, 0, 9, 1, 9 - 5 - 4 - 12])
        self.assertEqual(told([1, 1, 0, 1, 1, 0], [3, -3], [2, 4, 3]), [0, 0, 0, 2, 4, 3])

    def test_an_old_value_given_to_none(self):
        self.assertEqual(told([1, 1, 0, 1, 1, 0], [3, 1], [0, 7]), [0, 0, 4, 0, 7])
        self.assertEqual(told([0, 5, 0, -2], [3, 1], [0, 7]), [0, 0, 0, 0, -6])
        self.assertEqual(told([0, 5], [-1], [2, 4, 1]), [0, 0, 2, 4, 2])

    def test_an_old_value_given_to_another(self):
        self.assertEqual(told([1, 1, 0, 1, 2, 0, 1, 0, 0], [1, 2, 3], [1, 4]), [0, 3, 1, 2, 1, 4])

    def test_times_may_be_more_than_5(self):
        self.assertEqual(told([1, 2, 0] * 4, [5, 5, 5, 5], [1, 0]), [0, 0, 0, 20, 0, 1, 0])
        self.assertEqual(told([1, 3, 0] * 4, [-5, -5, -5, -5], [2, 6, 0]), [0, 0, 0, 0, -20, 2, 6, 0])

    def test_numbers_may_be_out_of_what_is_handed_over(self):
        self.assertEqual(told([1, 0, 99, 1, 1, 99, 1, 2, 99, 0, 99], [-5, -5, -5, -5], [0, 999999]),
                         [0, -5, -5, -5, 0, 0, 999999 + 20 * 99])
        self.assertEqual(told([1, 0, 99], [5], [1, -999999]), [0, 5, 1, -999999 - 495])

    def test_numbers_as_many_times_as_their_counter_has(self):
        self.assertEqual(told([1, 0, 4, 1, 1, -3], [3, 2], [0, 10]), [0, 3, 2, 0, 4])
        self.assertEqual(told([1, 0, 4, 0, -3], [0, -2], [1, 10]), [0, 0, 0, 1, 4])

    def test_remainders_are_from_0_to_below_m_again(self):
        for m in (2, 3, 4, 6):
            for r in range(m):
                for added in (-99, -m, -1, 0, 1, m - 1, m, 99):
                    self.assertEqual(told([1, 0, added], [1], [2, m, r]), [0, 1, 2, m, (r - added) % m])
                    self.assertEqual(told([1, 0, added], [-5], [2, m, r]), [0, -5, 2, m, (r + 5 * added) % m])

    def test_times_of_a_remainder_stay(self):
        self.assertEqual(told([1, 0, 0], [5], [2, 2, 1]), [0, 5, 2, 2, 1])
        self.assertEqual(told([1, 0, 0], [-4], [2, 4, 1]), [0, -4, 2, 4, 1])

    def test_nothing_of_the_tests(self):
        one = loops(1, branch([[0, 0, 9], [1, 0, 9], [3, 0, 2, 0]], [1, 0, 1]))
        self.assertEqual(last(one, claims([1, 0, 5]), ahead(0, 0)), [0, 1, 0, 4])

    def test_the_branch_and_the_fact(self):
        three = loops(1, branch([], [1, 0, 1]), branch([], [1, 0, 2]), branch([], [0, 3]))
        facts = [1, 0, 9], [2, 1, 9], [1, 2, 4, 0]
        answers = ask(three, claims(*facts), *[ahead(b, f) for b in range(3) for f in range(3)])
        self.assertEqual(answers[2:], [[0, 1, 0, 8], [0, 2, 1, 7], [0, 1, 2, 4, 3],
                                       [0, 1, 0, 7], [0, 2, 1, 5], [0, 1, 2, 4, 2],
                                       [0, 0, 0, 6], [0, 0, 1, 3], [0, 0, 2, 4, 1]])

    def test_not_shown_all_the_same(self):
        self.assertEqual(ask(loops(1, branch([], [1, 0, 1])), claims([1, 1, 3]), CHECK, ahead(0, 0))[2:],
                         [[0, 0, 0], [0, 1, 1, 2]])

    def test_nothing_changes(self):
        asked = [ahead(0, 0), holds(4), CHECK, TRIM]
        answers = ask(loops(1, branch([], [1, 0, 1])), claims([1, 0, 3]), *asked, ahead(1, 0), ahead(0, 1), *asked)
        first = [[0, 1, 0, 2], [0, 0], [0, 0, 0], [0]]
        self.assertEqual(answers[2:], first + [[-2], [-3]] + first)

    def test_at_a_lines_beginning(self):
        self.assertEqual(ask(ahead(0, 0), ahead(1, 0), claims([3, 0, 5], [3, 2, 4, 3]), ahead(0, 0), ahead(0, 1)),
                         [[-3], [-2], [2], [0, 3, 0, 5], [0, 3, 2, 4, 3]])
