"""Members of sets, and how sets of one number go on."""

from loopsize.digitsets import machine_of
from loopsize.errors import TooFar
from loopsize.searches import greatest_in, has_finitely_many, least_row
from loopsize.tails import is_in, lasting_machine

TOP_PERIOD = 2048
TOP_START = 10000


def least_of(a):
    """The row with the least first number, among these with the least second one, and so on; None without rows."""
    return next_of(a, 0)


def next_of(a, low):
    """The same of the rows whose first number is not less than low."""
    return least_row(machine_of(a), a.arity, low)


def is_finite(a):
    return has_finitely_many(machine_of(a))


def greatest_of(a):
    """The greatest number of a set of arity 1, None if there is none."""
    machine = machine_of(a)
    return greatest_in(machine) if has_finitely_many(machine) else None


def tail_of(a):
    """How a set of arity 1 goes on: (start, period, rests, early)."""
    return tail_of_machine(machine_of(a))


def tail_of_machine(machine):
    period, lasting = lasting_machine(machine)
    if period > TOP_PERIOD:
        raise TooFar("period", TOP_PERIOD)
    ends = [is_end != lasts for is_end, lasts in zip(machine[1], lasting[1])]
    last = greatest_in((machine[0], ends))
    start = 0 if last is None else last + 1
    if start > TOP_START:
        raise TooFar("start", TOP_START)
    rests = [rest for rest in range(period) if is_in(lasting, rest)]
    early = [number for number in range(start) if is_in(machine, number)]
    return start, period, tuple(rests), tuple(early)
