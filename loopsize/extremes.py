"""Of the rows of a machine those with the greatest or the least number at a place."""

from loopsize.conditionsets import least_machine
from loopsize.cuts import left_machine
from loopsize.machines import BOTH, FIRST_ALONE, joined, joined_freely, widened_machine


def extreme_rows(machine, place, factor):
    """Of the rows (n, i, k) that differ at the place 1 or 2 alone the one for which the factor makes most of it."""
    more = [0, 0, 0, 0]
    more[place] = -1 if factor > 0 else 1
    more[place + 1] = -more[place]
    rows, ends = joined_freely(widened_machine(machine, place), least_machine(tuple(more), 1), BOTH)
    return joined(machine, left_machine((rows, ends), place + 1), FIRST_ALONE)
