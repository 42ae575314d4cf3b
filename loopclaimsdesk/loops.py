"""Loops: branches with tests and moves, and which facts are usable for a branch and at the loop's end."""

from loopclaimsdesk.facts import AT_MOST, REMAINDER, Fact, contrary


# What a move gives one counter: the source's old value and what is added, or that alone without a source.
class Given:
    def __init__(self, source, added):
        self.source = source
        self.added = added


class Branch:
    def __init__(self, tests, move):
        self.tests = tests
        self.move = move


def never_chosen():
    tests = [Fact([1], AT_MOST, 0, -1), Fact([-1], AT_MOST, 0, 0)]
    return Branch(tests, [Given(0, 0)])


def ahead_of(move, fact):
    together = [0] * len(move)
    number = fact.number
    for each, given in zip(fact.times, move):
        if given.source is not None:
            together[given.source] += each
        number -= each * given.added
    if fact.kind == REMAINDER:
        number = number % fact.divisor
    return Fact(together, fact.kind, fact.divisor, number)


# What is so where the branch is not chosen; of more tests than one it is unknown which one does not hold.
def where_not_chosen(branch):
    if len(branch.tests) != 1 or branch.tests[0].kind == REMAINDER:
        return []
    return [contrary(branch.tests[0])]


def usable_for(branches, place, claim):
    usable = claim + branches[place].tests
    for branch in branches[:place]:
        usable = usable + where_not_chosen(branch)
    return usable


# None where nothing can be said: the loop's end tells something only if it does so of each branch.
def usable_at_end(branches, claim):
    usable = claim
    for branch in branches:
        known = where_not_chosen(branch)
        if len(known) == 0:
            return None
        usable = usable + known
    return usable
