"""Machines of the turns of loops and of the works of statements: they read the pairs (n, i)."""

from loopsize.conditions import Rest
from loopsize.conditionsets import in_all, least_machine, rest_machine


def range_machines(loop):
    """The machines of what a counter of a loop has to keep to."""
    low, high = loop.low, loop.high
    told = [least_machine((high.straight.n, -high.divisor), high.divisor - high.straight.one)]
    # Counters are never below 0.
    if low.straight.n != 0 or low.straight.one > 0:
        told.append(least_machine((-low.straight.n, low.divisor), low.straight.one - low.divisor + 1))
    if loop.step > 1:
        told.append(rest_machine((-low.straight.n, 1), loop.step, (low.straight.one % loop.step,)))
    return told


def check_machine(condition):
    """The machine of the pairs (n, i) for which a condition of a statement holds."""
    straight = condition.straight
    if isinstance(condition, Rest):
        return rest_machine((straight.n, straight.i), condition.modulus, (condition.rest,))
    return least_machine((straight.n, straight.i), -straight.one)


def turn_machine(loop):
    return in_all(range_machines(loop))


def work_machines(loop, statement):
    """The machines that all works of a statement are in, and nothing else is."""
    return range_machines(loop) + [check_machine(condition) for condition in statement.conditions]


def work_machine(loop, statement):
    return in_all(work_machines(loop, statement))
