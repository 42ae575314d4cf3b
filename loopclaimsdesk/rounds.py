"""Rounds: which branch is chosen, what its move makes of the values, and the loop done round by round."""

from loopclaimsdesk.facts import first_not_holding

OVER = 0
BEYOND = 1
CHOSEN_STILL = 2

FARTHEST = 1000000000000


# How a run ended, how many rounds were done, and the values that it reached.
class Ending:
    def __init__(self, outcome, rounds, reached):
        self.outcome = outcome
        self.rounds = rounds
        self.reached = reached


def chosen_place(branches, values):
    for place, branch in enumerate(branches):
        if first_not_holding(branch.tests, values) is None:
            return place
    return None


def moved(move, values):
    behind = []
    for given in move:
        old = 0 if given.source is None else values[given.source]
        behind.append(old + given.added)
    return behind


def some_beyond(values):
    return any([abs(value) > FARTHEST for value in values])


def run_from(branches, values, most):
    reached = values
    rounds = 0
    while True:
        place = chosen_place(branches, reached)
        # Asked ahead of how many rounds were done: a loop may be over just when no more are allowed.
        if place is None:
            return Ending(OVER, rounds, reached)
        if rounds == most:
            return Ending(CHOSEN_STILL, rounds, reached)
        reached = moved(branches[place].move, reached)
        rounds += 1
        if some_beyond(reached):
            return Ending(BEYOND, rounds, reached)
