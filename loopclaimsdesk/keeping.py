"""Keeping: the calls of one line, told as numbers, answered one behind another."""

from loopclaimsdesk.desk import Desk
from loopclaimsdesk.reading import Reader

LOOP = 0
CLAIM = 1
HOLDS = 2
SHOWN = 3
CHECK = 4
TRIM = 5


class UnknownCall(ValueError):
    pass


def answer_next(desk, reader):
    call = reader.take()
    if call == LOOP:
        counters = reader.take()
        return desk.set_loop(counters, reader.take_row())
    if call == CLAIM:
        return desk.set_claim(reader.take_row())
    if call == HOLDS:
        return desk.tell_holds(reader.take_row())
    if call == SHOWN:
        branch = reader.take()
        return desk.tell_shown(branch, reader.take())
    if call == CHECK:
        return desk.tell_check()
    if call == TRIM:
        return desk.tell_trim()
    raise UnknownCall()


def answers(calls):
    desk = Desk()
    reader = Reader(calls)
    told = []
    while not reader.is_over():
        answer = answer_next(desk, reader)
        told.append(len(answer))
        told.extend(answer)
    return told
