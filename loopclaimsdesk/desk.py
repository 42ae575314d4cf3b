"""The desk: the one object that the calls of a line speak to, each answered with a list of numbers."""

from loopclaimsdesk.breaking import first_break, how_many_rows, rows_of_values
from loopclaimsdesk.facts import fact_as_numbers, first_not_holding, holds_at
from loopclaimsdesk.loops import ahead_of, never_chosen, usable_at_end
from loopclaimsdesk.reading import MOST_VALUE, NotWhole, whole_claim, whole_fact, whole_loop, whole_values
from loopclaimsdesk.rounds import run_from
from loopclaimsdesk.showing import first_uses, keeps, trimmed, uses_that_keep

MOST_COUNTERS = 4
MOST_ROUNDS = 200
MOST_ROWS = 125


def uses_as_numbers(uses):
    if uses is None:
        return [0]
    numbers = [1, len(uses)]
    for use in uses:
        numbers.append(use.place)
        numbers.append(use.often)
    return numbers


def claim_as_numbers(claim):
    numbers = [len(claim)]
    for fact in claim:
        numbers.extend(fact_as_numbers(fact))
    return numbers


class Desk:
    def __init__(self):
        self.counters = 1
        self.branches = [never_chosen()]
        self.claim = []

    def set_loop(self, counters, numbers):
        if counters < 1 or counters > MOST_COUNTERS:
            return [-2]
        try:
            branches = whole_loop(numbers, counters)
        except NotWhole:
            return [-1]
        self.counters = counters
        self.branches = branches
        self.claim = []
        return [len(branches)]

    def set_claim(self, numbers):
        try:
            claim = whole_claim(numbers, self.counters)
        except NotWhole:
            return [-1]
        self.claim = claim
        return [len(claim)]

    def tell_holds(self, numbers):
        try:
            values = whole_values(numbers, self.counters)
        except NotWhole:
            return [-5]
        place = first_not_holding(self.claim, values)
        if place is None:
            return [1]
        return [0, place]

    # The refusal where there is no such branch or no such fact; None where both are there.
    def refusal_of(self, branch, fact):
        if branch < 0 or branch >= len(self.branches):
            return [-2]
        if fact < 0 or fact >= len(self.claim):
            return [-3]
        return None

    def tell_shown(self, branch, fact):
        refusal = self.refusal_of(branch, fact)
        if refusal is not None:
            return refusal
        return uses_as_numbers(uses_that_keep(self.branches, branch, self.claim, self.claim[fact]))

    def tell_check(self):
        for branch in range(len(self.branches)):
            for place, fact in enumerate(self.claim):
                if not keeps(self.branches, branch, self.claim, fact):
                    return [0, branch, place]
        return [1]

    def tell_trim(self):
        places = trimmed(self.branches, self.claim)
        return [len(places)] + places

    def set_trimmed(self):
        self.claim = [self.claim[place] for place in trimmed(self.branches, self.claim)]
        return claim_as_numbers(self.claim)

    def tell_broken(self, low, high):
        if low < -MOST_VALUE or high > MOST_VALUE or high < low:
            return [-5]
        if how_many_rows(low, high, self.counters) > MOST_ROWS:
            return [-7]
        found = first_break(self.branches, self.claim, rows_of_values(low, high, self.counters))
        if found is None:
            return [1]
        return [0, found.branch, found.broken] + found.origin

    def tell_goal(self, numbers):
        try:
            fact = whole_fact(numbers, self.counters)
        except NotWhole:
            return [-1]
        return uses_as_numbers(first_uses(fact, self.claim))

    def tell_at_end(self, numbers):
        try:
            fact = whole_fact(numbers, self.counters)
        except NotWhole:
            return [-1]
        usable = usable_at_end(self.branches, self.claim)
        if usable is None:
            return [-4]
        return uses_as_numbers(first_uses(fact, usable))

    def tell_run(self, most, numbers):
        if most < 0 or most > MOST_ROUNDS:
            return [-3]
        try:
            values = whole_values(numbers, self.counters)
        except NotWhole:
            return [-5]
        ending = run_from(self.branches, values, most)
        signs = [1 if holds_at(fact, ending.reached) else 0 for fact in self.claim]
        return [ending.outcome, ending.rounds] + ending.reached + signs

    def tell_ahead(self, branch, fact):
        refusal = self.refusal_of(branch, fact)
        if refusal is not None:
            return refusal
        return [0] + fact_as_numbers(ahead_of(self.branches[branch].move, self.claim[fact]))
