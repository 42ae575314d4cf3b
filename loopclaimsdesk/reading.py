"""Reading: loops, claims, facts and values out of rows of numbers."""

from loopclaimsdesk.facts import AT_MOST, REMAINDER, Fact
from loopclaimsdesk.loops import Branch, Given

MOST_BRANCHES = 3
MOST_TESTS = 3
MOST_FACTS = 6
MOST_TIMES = 5
MOST_ADDED = 99
MOST_NUMBER = 999999
MOST_VALUE = 1000000
DIVISORS = (2, 3, 4, 6)

TEST_AT_LEAST = 1
TEST_BELOW = 2
TEST_REMAINDER = 3


class NotWhole(ValueError):
    pass


class Reader:
    def __init__(self, numbers):
        self.numbers = numbers
        self.place = 0

    def is_over(self):
        return self.place >= len(self.numbers)

    def take(self):
        if self.is_over():
            raise NotWhole()
        number = self.numbers[self.place]
        self.place += 1
        return number

    def take_from(self, low, high):
        number = self.take()
        if number < low or number > high:
            raise NotWhole()
        return number

    def take_row(self):
        size = self.take()
        row = self.numbers[self.place:self.place + size]
        self.place += size
        return row

    def must_be_over(self):
        if not self.is_over():
            raise NotWhole()


def read_number(reader):
    return reader.take_from(-MOST_NUMBER, MOST_NUMBER)


def read_remainder(reader, times):
    divisor = reader.take()
    if divisor not in DIVISORS:
        raise NotWhole()
    return Fact(times, REMAINDER, divisor, reader.take_from(0, divisor - 1))


def read_test(reader, counters):
    kind = reader.take_from(0, TEST_REMAINDER)
    counter = reader.take_from(0, counters - 1)
    times = [0] * counters
    if kind == TEST_AT_LEAST:
        times[counter] = -1
        return Fact(times, AT_MOST, 0, -read_number(reader))
    times[counter] = 1
    if kind == TEST_REMAINDER:
        return read_remainder(reader, times)
    if kind == TEST_BELOW:
        other = reader.take_from(0, counters - 1)
        times[other] -= 1
    return Fact(times, AT_MOST, 0, read_number(reader))


def read_given(reader, counters):
    source = None
    if reader.take_from(0, 1) == 1:
        source = reader.take_from(0, counters - 1)
    return Given(source, reader.take_from(-MOST_ADDED, MOST_ADDED))


def read_branch(reader, counters):
    size = reader.take_from(0, MOST_TESTS)
    tests = [read_test(reader, counters) for place in range(size)]
    move = [read_given(reader, counters) for place in range(counters)]
    return Branch(tests, move)


def read_fact(reader, counters):
    times = [reader.take_from(-MOST_TIMES, MOST_TIMES) for place in range(counters)]
    kind = reader.take_from(0, REMAINDER)
    if kind == REMAINDER:
        return read_remainder(reader, times)
    return Fact(times, kind, 0, read_number(reader))


def whole_loop(numbers, counters):
    reader = Reader(numbers)
    size = reader.take_from(1, MOST_BRANCHES)
    branches = [read_branch(reader, counters) for place in range(size)]
    reader.must_be_over()
    return branches


def whole_claim(numbers, counters):
    reader = Reader(numbers)
    size = reader.take_from(0, MOST_FACTS)
    facts = [read_fact(reader, counters) for place in range(size)]
    reader.must_be_over()
    return facts


def whole_fact(numbers, counters):
    reader = Reader(numbers)
    fact = read_fact(reader, counters)
    reader.must_be_over()
    return fact


def whole_values(numbers, counters):
    reader = Reader(numbers)
    values = [reader.take_from(-MOST_VALUE, MOST_VALUE) for place in range(counters)]
    reader.must_be_over()
    return values
