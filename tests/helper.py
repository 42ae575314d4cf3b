"""How the tests write calls and read answers."""

from loopclaimsdesk.keeping import answers

CHECK = [4]
TRIM = [5]
USE = [6]

HUGE = 10 ** 18


def loop(n, numbers):
    return [0, n, len(numbers)] + numbers


def claim(numbers):
    return [1, len(numbers)] + numbers


def claims(*facts):
    """The claim of these facts, each told as numbers."""
    numbers = [len(facts)]
    for fact in facts:
        numbers += fact
    return claim(numbers)


def holds(*values):
    return [2, len(values)] + list(values)


def shown(branch, fact):
    return [3, branch, fact]


def broken(lo, hi):
    return [7, lo, hi]


def goal(*fact):
    return [8, len(fact)] + list(fact)


def at_end(*fact):
    return [9, len(fact)] + list(fact)


def run(n, *values):
    return [10, n, len(values)] + list(values)


def ahead(branch, fact):
    return [11, branch, fact]


def branch(tests, move):
    """A branch out of its tests, each told as numbers, and its whole move."""
    numbers = [len(tests)]
    for test in tests:
        numbers += test
    return numbers + move


def loops(n, *branches):
    """The loop of these branches, each told as numbers."""
    numbers = [len(branches)]
    for each in branches:
        numbers += each
    return loop(n, numbers)


def same(n):
    """The move that leaves all n counters as they are."""
    numbers = []
    for counter in range(n):
        numbers += [1, counter, 0]
    return numbers


def ask(*calls):
    """One list of numbers a call: what is answered when these calls stand one behind another."""
    line = []
    for call in calls:
        line += call
    told = answers(line)
    assert isinstance(told, list)
    assert all(number.__class__ is int for number in told)
    split = []
    place = 0
    while place < len(told):
        size = told[place]
        assert size >= 1 and place + 1 + size <= len(told)
        split.append(told[place + 1:place + 1 + size])
        place += 1 + size
    assert len(split) == len(calls)
    return split


def last(*calls):
    return ask(*calls)[-1]
