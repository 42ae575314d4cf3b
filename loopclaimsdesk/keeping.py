"""Keeping: the calls of one line, told as numbers, answered one behind another."""

from loopclaimsdesk.desk import Desk
from loopclaimsdesk.reading import Reader

LOOP = 0
CLAIM = 1
HOLDS = 2
SHOWN = 3
CHECK = 4
TRIM = 5
USE = 6
BROKEN = 7
GOAL = 8
AT_END = 9
RUN = 10
AHEAD = 11


class UnknownCall(ValueError):
    pass


def answer_next(desk, reader):
    call = reader.take()
    if call == LOOP:
        counters = reader.take()
        return desk.set_loop(counters, reader.take_row())
    if call == CLAIM:
        return desk.set_claim(reader.take_row())
    if call == HOLDS:
        return desk.tell_holds(reader.take_row())
    if call == SHOWN:
        branch = reader.take()
        return desk.tell_shown(branch, reader.take())
    if call == CHECK:
        return desk.tell_check()
    if call == TRIM:
        return desk.tell_trim()
    if call == USE:
        return desk.set_trimmed()
    if call == BROKEN:
        low = reader.take()
        return desk.tell_broken(low, reader.take())
    if call == GOAL:
        return desk.tell_goal(reader.take_row())
    if call == AT_END:
        return desk.tell_at_end(reader.take_row())
    if call == RUN:
        most = reader.take()
        return desk.tell_run(most, reader.take_row())
    if call == AHEAD:
        branch = reader.take()
        return desk.tell_ahead(branch, reader.take())
    raise UnknownCall()


def answers(calls):
    desk = Desk()
    reader = Reader(calls)
    told = []
    while not reader.is_over():
        answer = answer_next(desk, reader)
        told.append(len(answer))
        told.extend(answer)
    return told
