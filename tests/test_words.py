"""The words of the document written a second time, straight, and compared on many small loops."""

import itertools
import random
import unittest

from tests.helper import CHECK, TRIM, ask, claim, holds, loop, shown


def random_test(source, n):
    kind = source.randrange(4)
    counter = source.randrange(n)
    if kind == 3:
        m = source.choice((2, 3, 4, 6))
        return (3, counter, m, source.randrange(m))
    if kind == 2:
        return (2, counter, source.randrange(n), source.randint(-2, 2))
    return (kind, counter, source.randint(-2, 2))


def random_given(source, n):
    if source.random() < 0.2:
        return (0, source.randint(-2, 2))
    return (1, source.randrange(n), source.choice((0, 0, 0, 1, -1, 2)))


def random_branch(source, n):
    tests = [random_test(source, n) for each in range(source.choice((0, 1, 1, 1, 2, 3)))]
    return tests, [random_given(source, n) for each in range(n)]


def random_fact(source, n):
    times = tuple(source.choice((0, 0, 1, 1, -1, -1, 2, -2, 3)) for each in range(n))
    kind = source.randrange(3)
    if kind == 2:
        m = source.choice((2, 3, 4, 6))
        return times, (2, m, source.randrange(m))
    return times, (kind, source.randint(-2, 2))


def loop_numbers(branches):
    numbers = [len(branches)]
    for tests, move in branches:
        numbers.append(len(tests))
        for part in tests + move:
            numbers.extend(part)
    return numbers


def claim_numbers(facts):
    numbers = [len(facts)]
    for times, said in facts:
        numbers.extend(times + said)
    return numbers


def passes(test, values):
    value = values[test[1]]
    if test[0] == 0:
        return value <= test[2]
    if test[0] == 1:
        return value >= test[2]
    if test[0] == 2:
        return value <= values[test[2]] + test[3]
    return value % test[2] == test[3]


def fact_holds(fact, values):
    times, said = fact
    total = sum(each * value for each, value in zip(times, values))
    if said[0] == 2:
        return total % said[1] == said[2]
    return total <= said[1] if said[0] == 0 else total == said[1]


def moved(move, values):
    return tuple(given[1] if given[0] == 0 else values[given[1]] + given[2] for given in move)


def chosen(branches, values):
    for number, (tests, move) in enumerate(branches):
        if all(passes(test, values) for test in tests):
            return number
    return None


def ahead(move, fact):
    times, said = fact
    n = len(times)
    new = tuple(sum(times[i] for i in range(n) if move[i][0] == 1 and move[i][1] == j) for j in range(n))
    less = sum(times[i] * move[i][-1] for i in range(n))
    if said[0] == 2:
        return new, (2, said[1], (said[2] - less) % said[1])
    return new, (said[0], said[1] - less)


def unit(n, pairs):
    times = [0] * n
    for counter, often in pairs:
        times[counter] += often
    return tuple(times)


def as_fact(test, n):
    if test[0] == 0:
        return unit(n, [(test[1], 1)]), (0, test[2])
    if test[0] == 1:
        return unit(n, [(test[1], -1)]), (0, -test[2])
    if test[0] == 2:
        return unit(n, [(test[1], 1), (test[2], -1)]), (0, test[3])
    return unit(n, [(test[1], 1)]), (2, test[2], test[3])


def where_not(test, n):
    if test[0] == 0:
        return [(unit(n, [(test[1], -1)]), (0, -test[2] - 1))]
    if test[0] == 1:
        return [(unit(n, [(test[1], 1)]), (0, test[2] - 1))]
    if test[0] == 2:
        return [(unit(n, [(test[1], -1), (test[2], 1)]), (0, -test[3] - 1))]
    return []


def usable(branches, number, facts, n):
    found = list(facts) + [as_fact(test, n) for test in branches[number][0]]
    for tests, move in branches[:number]:
        if len(tests) == 1:
            found += where_not(tests[0], n)
    return found


def may_be_used(said, often, target):
    if said[0] == 0:
        return target[0] == 0 and often > 0
    if said[0] == 1:
        return True
    return target[0] == 2 and said[1] % target[1] == 0


def do_show(uses, facts, target):
    times, said = target
    if not all(may_be_used(facts[number][1], often, said) for number, often in uses):
        return False
    together = [sum(often * facts[number][0][j] for number, often in uses) for j in range(len(times))]
    number = sum(often * facts[number][1][-1] for number, often in uses)
    if said[0] == 2:
        m = said[1]
        return all(abs(a - b) % m == 0 for a, b in zip(together, times)) and number % m == said[2]
    if tuple(together) != times:
        return False
    return number <= said[1] if said[0] == 0 else number == said[1]


def first_shown(facts, target):
    single = list(itertools.product(range(len(facts)), (1, 2, -1, -2)))
    tries = [()] + [(use,) for use in single]
    tries += [pair for pair in itertools.product(single, single) if pair[1][0] > pair[0][0]]
    for uses in tries:
        if do_show(uses, facts, target):
            return [1, len(uses)] + [number for use in uses for number in use]
    return [0]


def shown_table(branches, facts, n):
    return [[first_shown(usable(branches, number, facts, n), ahead(branch[1], fact)) for fact in facts]
            for number, branch in enumerate(branches)]


def checked(table):
    for number, row in enumerate(table):
        for place, uses in enumerate(row):
            if uses == [0]:
                return [0, number, place]
    return [1]


def trimmed(branches, facts, n):
    left = list(range(len(facts)))
    while True:
        table = shown_table(branches, [facts[k] for k in left], n)
        stay = [k for place, k in enumerate(left) if all(row[place] != [0] for row in table)]
        if stay == left:
            return [len(left)] + left
        left = stay


class Words(unittest.TestCase):
    def loops_and_claims(self, seed, size):
        source = random.Random(seed)
        for turn in range(size):
            n = source.randint(1, 4)
            branches = [random_branch(source, n) for each in range(source.randint(1, 3))]
            facts = [random_fact(source, n) for each in range(source.randint(1, 6))]
            yield source, n, branches, facts

    def test_the_same_answers(self):
        for source, n, branches, facts in self.loops_and_claims(1, 150):
            table = shown_table(branches, facts, n)
            each = [(b, f) for b in range(len(branches)) for f in range(len(facts))]
            told = ask(loop(n, loop_numbers(branches)), claim(claim_numbers(facts)), CHECK, TRIM,
                       *[shown(b, f) for b, f in each])
            asked = [[len(branches)], [len(facts)], checked(table), trimmed(branches, facts, n)]
            self.assertEqual(told, asked + [table[b][f] for b, f in each])

    def test_where_claims_hold(self):
        for source, n, branches, facts in self.loops_and_claims(2, 150):
            values = [[source.randint(-4, 4) for each in range(n)] for turn in range(20)]
            told = ask(loop(n, loop_numbers(branches)), claim(claim_numbers(facts)), *[holds(*row) for row in values])
            for row, answer in zip(values, told[2:]):
                wrong = [k for k, fact in enumerate(facts) if not fact_holds(fact, row)]
                self.assertEqual(answer, [0, wrong[0]] if wrong else [1])

    def test_what_is_kept_holds_behind_each_round(self):
        rounds = 0
        for source, n, branches, facts in self.loops_and_claims(3, 400):
            left = ask(loop(n, loop_numbers(branches)), claim(claim_numbers(facts)), TRIM)[2][1:]
            kept = [facts[k] for k in left]
            self.assertEqual(ask(loop(n, loop_numbers(branches)), claim(claim_numbers(kept)), CHECK)[2], [1])
            for values in itertools.product(range(-2, 3), repeat=n):
                number = chosen(branches, values)
                if kept and number is not None and all(fact_holds(fact, values) for fact in kept):
                    behind = moved(branches[number][1], values)
                    self.assertTrue(all(fact_holds(fact, behind) for fact in kept))
                    rounds += 1
        self.assertGreater(rounds, 1000)


if __name__ == "__main__":
    unittest.main()
