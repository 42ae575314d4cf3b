import unittest

from tests.helper import CHECK, TRIM, ask, claim, holds, loop, shown


class Example(unittest.TestCase):
    def test_rows(self):
        answers = ask(
            loop(2, [1, 1, 0, 0, 9, 1, 0, 1, 1, 1, 2]),
            claim([4, -2, 1, 1, 0, 1, 0, 0, 10, -1, 0, 0, 0, 0, 1, 2, 2, 0]),
            CHECK,
            shown(0, 1),
            holds(3, 7),
            claim([1, 0, 1, 0, 5]),
            CHECK,
            TRIM,
        )
        self.assertEqual(answers, [[1], [4], [1], [1, 1, 4, 1], [0, 0], [1], [0, 0, 0], [0]])

    def test_what_the_rows_say_beside(self):
        answers = ask(
            loop(2, [1, 1, 0, 0, 9, 1, 0, 1, 1, 1, 2]),
            claim([4, -2, 1, 1, 0, 1, 0, 0, 10, -1, 0, 0, 0, 0, 1, 2, 2, 0]),
            holds(4, 8),
            shown(0, 0),
            shown(0, 2),
            shown(0, 3),
            TRIM,
        )
        self.assertEqual(answers[2:], [[1], [1, 1, 0, 1], [1, 1, 2, 1], [1, 1, 0, 1], [4, 0, 1, 2, 3]])
