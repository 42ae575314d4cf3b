"""Breaking: small values at which a claim holds, but not behind the round that is done there."""

from loopclaimsdesk.facts import first_not_holding
from loopclaimsdesk.rounds import chosen_place, moved


# The branch that is chosen at the values, and the first fact of the claim that its move breaks.
class Break:
    def __init__(self, branch, broken, origin):
        self.branch = branch
        self.broken = broken
        self.origin = origin


# Told without making the rows, as there may be far too many.
def how_many_rows(low, high, counters):
    size = 1
    for counter in range(counters):
        size *= high - low + 1
    return size


# All values with each counter from low to high, by the first counter, then by the second one, and so on.
def rows_of_values(low, high, counters):
    rows = [[]]
    for counter in range(counters):
        longer = []
        for row in rows:
            for value in range(low, high + 1):
                longer.append(row + [value])
        rows = longer
    return rows


def break_at(branches, claim, values):
    if first_not_holding(claim, values) is not None:
        return None
    branch = chosen_place(branches, values)
    if branch is None:
        return None
    broken = first_not_holding(claim, moved(branches[branch].move, values))
    if broken is None:
        return None
    return Break(branch, broken, values)


def first_break(branches, claim, rows):
    for row in rows:
        found = break_at(branches, claim, row)
        if found is not None:
            return found
    return None
