"""Showing: from which usable facts a fact follows, and what a loop keeps."""

from loopclaimsdesk.facts import AT_MOST, JUST, Fact
from loopclaimsdesk.loops import ahead_of, usable_for


# The usable fact at this place, so often: multiplied once here, since pairs ask for it again and again.
class Use:
    def __init__(self, place, often, fact):
        self.place = place
        self.often = often
        self.times = [often * each for each in fact.times]
        self.number = often * fact.number


def allowed_often(fact, target):
    if fact.kind == JUST:
        return (1, 2, -1, -2)
    if fact.kind != target.kind:
        return ()
    if fact.kind == AT_MOST:
        return (1, 2)
    if fact.divisor % target.divisor == 0:
        return (1, 2, -1, -2)
    return ()


def allowed_uses(usable, target):
    uses = []
    for place, fact in enumerate(usable):
        for often in allowed_often(fact, target):
            uses.append(Use(place, often, fact))
    return uses


# What is still to be shown beside a use; a remainder stays unreduced, as shown_by_none divides anyway.
def less(target, use):
    times = [each - used for each, used in zip(target.times, use.times)]
    return Fact(times, target.kind, target.divisor, target.number - use.number)


def shown_by_none(target):
    if target.kind == AT_MOST:
        return not any(target.times) and target.number >= 0
    if target.kind == JUST:
        return not any(target.times) and target.number == 0
    divisor = target.divisor
    return target.number % divisor == 0 and not any([each % divisor for each in target.times])


def first_single_use(target, uses):
    for use in uses:
        if shown_by_none(less(target, use)):
            return use
    return None


# The first uses as a list, which is empty where none is needed; None where the target is not shown.
def first_uses(target, usable):
    if shown_by_none(target):
        return []
    uses = allowed_uses(usable, target)
    single = first_single_use(target, uses)
    if single is not None:
        return [single]
    for first in uses:
        behind = [use for use in uses if use.place > first.place]
        second = first_single_use(less(target, first), behind)
        if second is not None:
            return [first, second]
    return None


def uses_that_keep(branches, place, claim, fact):
    return first_uses(ahead_of(branches[place].move, fact), usable_for(branches, place, claim))


def keeps(branches, place, claim, fact):
    return uses_that_keep(branches, place, claim, fact) is not None


def kept_by_all(branches, claim, fact):
    return all([keeps(branches, place, claim, fact) for place in range(len(branches))])


# The places, rising, of the facts that are left of the claim.
def trimmed(branches, claim):
    left = list(range(len(claim)))
    while True:
        facts = [claim[place] for place in left]
        kept = [place for place in left if kept_by_all(branches, facts, claim[place])]
        if kept == left:
            return left
        left = kept
