"""Machines of pairs of works: rows (n, j, i), j the counter of one of them, i that of the other one.

A gap (least, most) is what the difference i - j may be, None for a side without a bound.
"""

from loopsize.checks import statement_at
from loopsize.conditionsets import between_machine, least_machine
from loopsize.machines import FIRST_ALONE, full_machine, joined_freely
from loopsize.searches import least_row
from loopsize.straights import place_like

ANY_GAP = (None, None)
FAR_GAP = 600


def place_of_access(program, access):
    """(array, place) of an access (loop, statement, access)."""
    statement = statement_at(program, access[0], access[1])
    if access[2] < len(statement.reads):
        read = statement.reads[access[2]]
        return read.array, read.place
    return statement.array, place_like(statement.cell)


def gap_ahead(program, one, other):
    """The gap at which the work of the statement other at i comes ahead of that of one at j, None if it never does."""
    if other[0] != one[0]:
        return ANY_GAP if other[0] < one[0] else None
    same_turn = 0 if other[1] < one[1] else 1
    return (same_turn, None) if program.loops[one[0]].down else (None, -same_turn)


def gap_machine(gap):
    """The rows (n, j, i) with a gap."""
    return difference_machine((0, -1, 1), gap)


def difference_machine(factors, gap):
    """The rows whose sum is what a gap allows."""
    least, most = gap
    if least is None and most is None:
        return full_machine(len(factors))
    if least is None:
        return least_machine(tuple([-factor for factor in factors]), -most)
    if most is None:
        return least_machine(factors, least)
    return between_machine(factors, least, most)


def common_gap(one, other):
    """What both gaps allow."""
    least = [gap[0] for gap in (one, other) if gap[0] is not None]
    most = [gap[1] for gap in (one, other) if gap[1] is not None]
    return max(least, default=None), min(most, default=None)


def has_no_gap(gap, steps):
    """Whether a gap has no number with all rests of the steps, pairs (step, rest); a great one is not looked at."""
    least, most = gap
    if least is None or most is None or most - least > FAR_GAP:
        return False
    return not any([all([(d - rest) % step == 0 for step, rest in steps]) for d in range(least, most + 1)])


def constant_difference(own):
    """j - i if it is the same for all rows (n, j, i), otherwise None."""
    _, j, i = least_row(own, 3, 0)
    others = joined_freely(own, between_machine((0, 1, -1), j - i, j - i), FIRST_ALONE)
    return None if True in others[1] else j - i


def cells_machine(place, cell):
    """The rows (n, j, i) for which a place at j is the cell at i."""
    at_size, at_place, at_cell, start = cells_sum(place, cell)
    return between_machine((at_size, at_place, at_cell), start, start + place.divisor - 1)


def meeting_machine(one, other):
    """The rows (n, i, k) for which two places are of one cell, that of one at i; one of them is not divided."""
    if other.divisor == 1:
        return cells_machine(one, other.straight)
    at_size, at_place, at_cell, start = cells_sum(other, one.straight)
    return between_machine((at_size, at_cell, at_place), start, start + other.divisor - 1)


def meeting_gap(one, other):
    """The gap k - i at which two places are of one cell, that of one at i, that of other at k, if nothing else matters;
    otherwise None. A gap without numbers is (1, 0)."""
    turned = other.divisor != 1
    at_size, at_place, at_cell, start = cells_sum(other, one.straight) if turned else cells_sum(one, other.straight)
    if at_size != 0 or at_place + at_cell != 0:
        return None
    last = start + (other.divisor if turned else one.divisor) - 1
    if at_place == 0:
        return ANY_GAP if start <= 0 <= last else (1, 0)
    least = -(-start // abs(at_place))
    most = last // abs(at_place)
    # These are bounds of the counter of the place less that of the cell, or the other way round.
    return (least, most) if turned == (at_place > 0) else (-most, -least)


def cells_sum(place, cell):
    """The factors of the size, and of the counters of a place and of a cell, in the sum that the place has ahead of
    the cell, times the divisor; and what this sum is at the least if they are of one cell."""
    straight = place.straight
    divisor = place.divisor
    at_size = straight.n - divisor * cell.n
    return at_size, straight.i, -divisor * cell.i, divisor * cell.one - straight.one


def value_machine(straight):
    """The rows (n, c, i) for which a straight sum at i is c."""
    return between_machine((straight.n, -1, straight.i), -straight.one, -straight.one)
