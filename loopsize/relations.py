"""Machines of pairs of works: rows (n, j, i), j the counter of one of them, i that of the other one.

A gap (least, most) is what the difference i - j may be, None for a side without a bound.
"""

from loopsize.checks import statement_at
from loopsize.conditionsets import between_machine, least_machine
from loopsize.machines import full_machine
from loopsize.straights import place_like

ANY_GAP = (None, None)


def place_of_access(program, access):
    """(array, place) of an access (loop, statement, access)."""
    statement = statement_at(program, access[0], access[1])
    if access[2] < len(statement.reads):
        read = statement.reads[access[2]]
        return read.array, read.place
    return statement.array, place_like(statement.cell)


def gap_ahead(program, one, other):
    """The gap at which the work of the statement other at i comes ahead of that of one at j, None if it never does."""
    if other[0] != one[0]:
        return ANY_GAP if other[0] < one[0] else None
    same_turn = 0 if other[1] < one[1] else 1
    return (same_turn, None) if program.loops[one[0]].down else (None, -same_turn)


def gap_machine(gap):
    """The rows (n, j, i) with a gap."""
    least, most = gap
    if least is None and most is None:
        return full_machine(3)
    if least is None:
        return least_machine((0, 1, -1), -most)
    if most is None:
        return least_machine((0, -1, 1), least)
    return between_machine((0, -1, 1), least, most)


def cells_machine(place, cell):
    """The rows (n, j, i) for which a place at j is the cell at i."""
    straight = place.straight
    divisor = place.divisor
    factors = (straight.n - divisor * cell.n, straight.i, -divisor * cell.i)
    start = divisor * cell.one - straight.one
    return between_machine(factors, start, start + divisor - 1)


def value_machine(straight):
    """The rows (n, c, i) for which a straight sum at i is c."""
    return between_machine((straight.n, -1, straight.i), -straight.one, -straight.one)
