"""The desk: the one object that the calls of a line speak to, each answered with a list of numbers."""

from loopclaimsdesk.facts import first_not_holding
from loopclaimsdesk.loops import never_chosen
from loopclaimsdesk.reading import NotWhole, whole_claim, whole_loop, whole_values
from loopclaimsdesk.showing import keeps, trimmed, uses_that_keep

MOST_COUNTERS = 4


def uses_as_numbers(uses):
    if uses is None:
        return [0]
    numbers = [1, len(uses)]
    for use in uses:
        numbers.append(use.place)
        numbers.append(use.often)
    return numbers


class Desk:
    def __init__(self):
        self.counters = 1
        self.branches = [never_chosen()]
        self.claim = []

    def set_loop(self, counters, numbers):
        if counters < 1 or counters > MOST_COUNTERS:
            return [-2]
        try:
            branches = whole_loop(numbers, counters)
        except NotWhole:
            return [-1]
        self.counters = counters
        self.branches = branches
        self.claim = []
        return [len(branches)]

    def set_claim(self, numbers):
        try:
            claim = whole_claim(numbers, self.counters)
        except NotWhole:
            return [-1]
        self.claim = claim
        return [len(claim)]

    def tell_holds(self, numbers):
        try:
            values = whole_values(numbers, self.counters)
        except NotWhole:
            return [-5]
        place = first_not_holding(self.claim, values)
        if place is None:
            return [1]
        return [0, place]

    def tell_shown(self, branch, fact):
        if branch < 0 or branch >= len(self.branches):
            return [-2]
        if fact < 0 or fact >= len(self.claim):
            return [-3]
        return uses_as_numbers(uses_that_keep(self.branches, branch, self.claim, self.claim[fact]))

    def tell_check(self):
        for branch in range(len(self.branches)):
            for place, fact in enumerate(self.claim):
                if not keeps(self.branches, branch, self.claim, fact):
                    return [0, branch, place]
        return [1]

    def tell_trim(self):
        places = trimmed(self.branches, self.claim)
        return [len(places)] + places
