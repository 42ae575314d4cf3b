"""The words of the document written a second time, straight, and compared on many small loops."""

import itertools
import random
import unittest

from tests import helper
from tests.helper import CHECK, TRIM, USE, ask, at_end, broken, claim, goal, holds, loop, run, shown


def random_test(source, n):
    kind = source.randrange(4)
    counter = source.randrange(n)
    if kind == 3:
        m = source.choice((2, 3, 4, 6))
        return (3, counter, m, source.randrange(m))
    if kind == 2:
        return (2, counter, source.randrange(n), source.randint(-2, 2))
    return (kind, counter, source.randint(-2, 2))


def random_given(source, n):
    if source.random() < 0.2:
        return (0, source.randint(-2, 2))
    return (1, source.randrange(n), source.choice((0, 0, 0, 1, -1, 2)))


def random_branch(source, n):
    tests = [random_test(source, n) for each in range(source.choice((0, 1, 1, 1, 2, 3)))]
    return tests, [random_given(source, n) for each in range(n)]


def random_fact(source, n):
    times = tuple(source.choice((0, 0, 1, 1, -1, -1, 2, -2, 3)) for each in range(n))
    kind = source.randrange(3)
    if kind == 2:
        m = source.choice((2, 3, 4, 6))
        return times, (2, m, source.randrange(m))
    return times, (kind, source.randint(-2, 2))


def loop_numbers(branches):
    numbers = [len(branches)]
    for tests, move in branches:
        numbers.append(len(tests))
        for part in tests + move:
            numbers.extend(part)
    return numbers


def claim_numbers(facts):
    numbers = [len(facts)]
    for times, said in facts:
        numbers.extend(times + said)
    return numbers


def passes(test, values):
    value = values[test[1]]
    if test[0] == 0:
        return value <= test[2]
    if test[0] == 1:
        return value >= test[2]
    if test[0] == 2:
        return value <= values[test[2]] + test[3]
    return value % test[2] == test[3]


def fact_holds(fact, values):
    times, said = fact
    total = sum(each * value for each, value in zip(times, values))
    if said[0] == 2:
        return total % said[1] == said[2]
    return total <= said[1] if said[0] == 0 else total == said[1]


def moved(move, values):
    return tuple(given[1] if given[0] == 0 else values[given[1]] + given[2] for given in move)


def chosen(branches, values):
    for number, (tests, move) in enumerate(branches):
        if all(passes(test, values) for test in tests):
            return number
    return None


def ahead(move, fact):
    times, said = fact
    n = len(times)
    new = tuple(sum(times[i] for i in range(n) if move[i][0] == 1 and move[i][1] == j) for j in range(n))
    less = sum(times[i] * move[i][-1] for i in range(n))
    if said[0] == 2:
        return new, (2, said[1], (said[2] - less) % said[1])
    return new, (said[0], said[1] - less)


def unit(n, pairs):
    times = [0] * n
    for counter, often in pairs:
        times[counter] += often
    return tuple(times)


def as_fact(test, n):
    if test[0] == 0:
        return unit(n, [(test[1], 1)]), (0, test[2])
    if test[0] == 1:
        return unit(n, [(test[1], -1)]), (0, -test[2])
    if test[0] == 2:
        return unit(n, [(test[1], 1), (test[2], -1)]), (0, test[3])
    return unit(n, [(test[1], 1)]), (2, test[2], test[3])


def where_not(test, n):
    if test[0] == 0:
        return [(unit(n, [(test[1], -1)]), (0, -test[2] - 1))]
    if test[0] == 1:
        return [(unit(n, [(test[1], 1)]), (0, test[2] - 1))]
    if test[0] == 2:
        return [(unit(n, [(test[1], -1), (test[2], 1)]), (0, -test[3] - 1))]
    return []


def usable(branches, number, facts, n):
    found = list(facts) + [as_fact(test, n) for test in branches[number][0]]
    for tests, move in branches[:number]:
        if len(tests) == 1:
            found += where_not(tests[0], n)
    return found


def may_be_used(said, often, target):
    if said[0] == 0:
        return target[0] == 0 and often > 0
    if said[0] == 1:
        return True
    return target[0] == 2 and said[1] % target[1] == 0


def do_show(uses, facts, target):
    times, said = target
    if not all(may_be_used(facts[number][1], often, said) for number, often in uses):
        return False
    together = [sum(often * facts[number][0][j] for number, often in uses) for j in range(len(times))]
    number = sum(often * facts[number][1][-1] for number, often in uses)
    if said[0] == 2:
        m = said[1]
        return all(abs(a - b) % m == 0 for a, b in zip(together, times)) and number % m == said[2]
    if tuple(together) != times:
        return False
    return number <= said[1] if said[0] == 0 else number == said[1]


def first_shown(facts, target):
    single = list(itertools.product(range(len(facts)), (1, 2, -1, -2)))
    tries = [()] + [(use,) for use in single]
    tries += [pair for pair in itertools.product(single, single) if pair[1][0] > pair[0][0]]
    for uses in tries:
        if do_show(uses, facts, target):
            return [1, len(uses)] + [number for use in uses for number in use]
    return [0]


def shown_table(branches, facts, n):
    return [[first_shown(usable(branches, number, facts, n), ahead(branch[1], fact)) for fact in facts]
            for number, branch in enumerate(branches)]


def checked(table):
    for number, row in enumerate(table):
        for place, uses in enumerate(row):
            if uses == [0]:
                return [0, number, place]
    return [1]


def trimmed(branches, facts, n):
    left = list(range(len(facts)))
    while True:
        table = shown_table(branches, [facts[k] for k in left], n)
        stay = [k for place, k in enumerate(left) if all(row[place] != [0] for row in table)]
        if stay == left:
            return [len(left)] + left
        left = stay


def usable_at_end(branches, facts, n):
    found = list(facts)
    for tests, move in branches:
        if len(tests) != 1 or tests[0][0] == 3:
            return None
        found += where_not(tests[0], n)
    return found


def shown_at_end(branches, facts, target, n):
    found = usable_at_end(branches, facts, n)
    return [-4] if found is None else first_shown(found, target)


def first_broken(branches, facts, lo, hi, n):
    for values in itertools.product(range(lo, hi + 1), repeat=n):
        number = chosen(branches, values)
        if number is not None and all(fact_holds(fact, values) for fact in facts):
            behind = moved(branches[number][1], values)
            for place, fact in enumerate(facts):
                if not fact_holds(fact, behind):
                    return [0, number, place, *values]
    return [1]


def done(branches, facts, most, values):
    rounds = 0
    while rounds < most and chosen(branches, values) is not None:
        values = moved(branches[chosen(branches, values)][1], values)
        rounds += 1
    first = 0 if chosen(branches, values) is None else 2
    return [first, rounds, *values, *[int(fact_holds(fact, values)) for fact in facts]]


def fact_numbers(fact):
    return list(fact[0] + fact[1])


class Words(unittest.TestCase):
    def loops_and_claims(self, seed, size):
        source = random.Random(seed)
        for turn in range(size):
            n = source.randint(1, 4)
            branches = [random_branch(source, n) for each in range(source.randint(1, 3))]
            facts = [random_fact(source, n) for each in range(source.randint(1, 6))]
            yield source, n, branches, facts

    def test_the_same_answers(self):
        for source, n, branches, facts in self.loops_and_claims(1, 150):
            table = shown_table(branches, facts, n)
            each = [(b, f) for b in range(len(branches)) for f in range(len(facts))]
            told = ask(loop(n, loop_numbers(branches)), claim(claim_numbers(facts)), CHECK, TRIM,
                       *[shown(b, f) for b, f in each])
            asked = [[len(branches)], [len(facts)], checked(table), trimmed(branches, facts, n)]
            self.assertEqual(told, asked + [table[b][f] for b, f in each])

    def test_where_claims_hold(self):
        for source, n, branches, facts in self.loops_and_claims(2, 150):
            values = [[source.randint(-4, 4) for each in range(n)] for turn in range(20)]
            told = ask(loop(n, loop_numbers(branches)), claim(claim_numbers(facts)), *[holds(*row) for row in values])
            for row, answer in zip(values, told[2:]):
                wrong = [k for k, fact in enumerate(facts) if not fact_holds(fact, row)]
                self.assertEqual(answer, [0, wrong[0]] if wrong else [1])

    def test_use(self):
        for source, n, branches, facts in self.loops_and_claims(4, 150):
            left = [facts[k] for k in trimmed(branches, facts, n)[1:]]
            told = ask(loop(n, loop_numbers(branches)), claim(claim_numbers(facts)), USE, CHECK, TRIM, USE)
            asked = claim_numbers(left)
            self.assertEqual(told[2:], [asked, [1], [len(left)] + list(range(len(left))), asked])

    def test_goal_and_at_end(self):
        ends = 0
        for source, n, branches, facts in self.loops_and_claims(5, 500):
            goals = [random_fact(source, n) for turn in range(6)]
            told = ask(loop(n, loop_numbers(branches)), claim(claim_numbers(facts)),
                       *[goal(*fact_numbers(fact)) for fact in goals], *[at_end(*fact_numbers(fact)) for fact in goals])
            self.assertEqual(told[2:8], [first_shown(facts, fact) for fact in goals])
            self.assertEqual(told[8:], [shown_at_end(branches, facts, fact, n) for fact in goals])
            ends += sum(answer != [-4] for answer in told[8:])
        self.assertGreater(ends, 200)

    def test_broken(self):
        found = 0
        for source, n, branches, facts in self.loops_and_claims(6, 1000):
            few = facts[:source.randint(1, 3)]
            lo = source.randint(-4, 0)
            hi = lo + source.randrange((125, 11, 5, 3)[n - 1])
            told = ask(loop(n, loop_numbers(branches)), claim(claim_numbers(few)), broken(lo, hi))
            self.assertEqual(told[2], first_broken(branches, few, lo, hi, n))
            found += told[2][0] == 0
        self.assertGreater(found, 200)

    def test_run(self):
        over = 0
        for source, n, branches, facts in self.loops_and_claims(7, 300):
            asked = [(source.choice((0, 1, 2, 3, 7, 200)), tuple(source.randint(-9, 9) for each in range(n)))
                     for turn in range(10)]
            told = ask(loop(n, loop_numbers(branches)), claim(claim_numbers(facts)),
                       *[run(most, *values) for most, values in asked])
            self.assertEqual(told[2:], [done(branches, facts, most, values) for most, values in asked])
            over += sum(answer[0] == 0 and answer[1] > 0 for answer in told[2:])
        self.assertGreater(over, 200)

    def test_ahead(self):
        for source, n, branches, facts in self.loops_and_claims(8, 150):
            each = [(b, f) for b in range(len(branches)) for f in range(len(facts))]
            told = ask(loop(n, loop_numbers(branches)), claim(claim_numbers(facts)),
                       *[helper.ahead(b, f) for b, f in each])
            self.assertEqual(told[2:], [[0] + fact_numbers(ahead(branches[b][1], facts[f])) for b, f in each])

    def test_what_has_to_be_so_ahead_is_what_is_so_behind(self):
        for source, n, branches, facts in self.loops_and_claims(9, 150):
            told = ask(loop(n, loop_numbers(branches)), claim(claim_numbers(facts)),
                       *[helper.ahead(0, f) for f in range(len(facts))])[2:]
            for turn in range(20):
                values = tuple(source.randint(-9, 9) for each in range(n))
                behind = moved(branches[0][1], values)
                for fact, answer in zip(facts, told):
                    before = tuple(answer[1:n + 1]), tuple(answer[n + 1:])
                    self.assertEqual(fact_holds(before, values), fact_holds(fact, behind))

    def test_what_is_kept_is_never_broken(self):
        for source, n, branches, facts in self.loops_and_claims(10, 200):
            told = ask(loop(n, loop_numbers(branches)), claim(claim_numbers(facts)), USE, broken(-1, 1))
            self.assertEqual(told[3], [1])

    def test_what_is_shown_at_the_end_holds_there(self):
        ends = 0
        for source, n, branches, facts in self.loops_and_claims(11, 1000):
            few = facts[:2]
            goals = [random_fact(source, n) for turn in range(10)]
            told = ask(loop(n, loop_numbers(branches)), claim(claim_numbers(few)),
                       *[at_end(*fact_numbers(fact)) for fact in goals])[2:]
            sure = [fact for fact, answer in zip(goals, told) if answer[0] == 1]
            for values in itertools.product(range(-3, 4), repeat=n) if sure else ():
                if chosen(branches, values) is None and all(fact_holds(fact, values) for fact in few):
                    self.assertTrue(all(fact_holds(fact, values) for fact in sure))
                    ends += 1
        self.assertGreater(ends, 50)

    def test_what_is_kept_holds_behind_each_round(self):
        rounds = 0
        for source, n, branches, facts in self.loops_and_claims(3, 400):
            left = ask(loop(n, loop_numbers(branches)), claim(claim_numbers(facts)), TRIM)[2][1:]
            kept = [facts[k] for k in left]
            self.assertEqual(ask(loop(n, loop_numbers(branches)), claim(claim_numbers(kept)), CHECK)[2], [1])
            for values in itertools.product(range(-2, 3), repeat=n):
                number = chosen(branches, values)
                if kept and number is not None and all(fact_holds(fact, values) for fact in kept):
                    behind = moved(branches[number][1], values)
                    self.assertTrue(all(fact_holds(fact, behind) for fact in kept))
                    rounds += 1
        self.assertGreater(rounds, 1000)


if __name__ == "__main__":
    unittest.main()
