import unittest

from tests.helper import CHECK, TRIM, USE, ahead, ask, at_end, broken, claim, goal, holds, loop, run, shown

LOOP = loop(2, [1, 1, 0, 0, 9, 1, 0, 1, 1, 1, 2])
CLAIM = claim([4, -2, 1, 1, 0, 1, 0, 0, 10, -1, 0, 0, 0, 0, 1, 2, 2, 0])

# The document's rows: a call and what it answers.
ROWS = [
    (LOOP, [1]),
    (CLAIM, [4]),
    (CHECK, [1]),
    (shown(0, 1), [1, 1, 4, 1]),
    (ahead(0, 1), [0, 1, 0, 0, 9]),
    (run(4, 0, 0), [2, 4, 4, 8, 1, 1, 1, 1]),
    (at_end(-1, 0, 0, -10), [1, 1, 4, 1]),
    (goal(0, 1, 0, 20), [1, 2, 0, 1, 1, 2]),
    (holds(3, 7), [0, 0]),
    (claim([1, 0, 1, 0, 5]), [1]),
    (CHECK, [0, 0, 0]),
    (broken(0, 4), [0, 0, 0, 0, 4]),
    (TRIM, [0]),
    (USE, [0]),
]


class Example(unittest.TestCase):
    def test_rows(self):
        for size in range(1, len(ROWS) + 1):
            calls = [call for call, answer in ROWS[:size]]
            self.assertEqual(ask(*calls), [answer for call, answer in ROWS[:size]])

    def test_what_the_rows_say_beside(self):
        answers = ask(LOOP, CLAIM, holds(4, 8), shown(0, 0), shown(0, 2), shown(0, 3), TRIM, broken(0, 10),
                      run(200, 0, 0))
        self.assertEqual(answers[2:], [[1], [1, 1, 0, 1], [1, 1, 2, 1], [1, 1, 0, 1], [4, 0, 1, 2, 3], [1],
                                       [0, 10, 10, 20, 1, 1, 1, 1]])
