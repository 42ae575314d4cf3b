"""Facts: what is said of a sum of the counters' values."""

AT_MOST = 0
JUST = 1
REMAINDER = 2


# A test is kept as the fact that says the same, so that this one class serves claims and tests.
class Fact:
    # The divisor is 0 but for a remainder, whose number is the remainder.
    def __init__(self, times, kind, divisor, number):
        self.times = times
        self.kind = kind
        self.divisor = divisor
        self.number = number


def holds_at(fact, values):
    total = sum([each * value for each, value in zip(fact.times, values)])
    if fact.kind == AT_MOST:
        return total <= fact.number
    if fact.kind == JUST:
        return total == fact.number
    return total % fact.divisor == fact.number


def first_not_holding(facts, values):
    for place, fact in enumerate(facts):
        if not holds_at(fact, values):
            return place
    return None


# Asked for what is at most a number alone: whole numbers make "not at most c" into "at least c + 1".
def contrary(fact):
    return Fact([-each for each in fact.times], AT_MOST, 0, -fact.number - 1)


def fact_as_numbers(fact):
    if fact.kind == REMAINDER:
        return fact.times + [REMAINDER, fact.divisor, fact.number]
    return fact.times + [fact.kind, fact.number]
