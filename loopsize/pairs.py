"""Pairs of works: those that touch one cell, and those of which one comes ahead of the other."""

from loopsize.checks import check_access, check_statement
from loopsize.conditionsets import joined_at_last
from loopsize.digitsets import least_told_set
from loopsize.machines import BOTH
from loopsize.sources import sources_for


def same_cell(program, access, writer):
    """All (n, j, i) at which an access of a work at j and the write of writer at i are of one cell."""
    check_access(program, access)
    loop, statement = writer
    check_statement(program, loop, statement)
    rows, ends = joined_at_last(sources_for(program).same_cell_parts(tuple(access), (loop, statement)), BOTH)
    return least_told_set(rows, ends)


def ahead(program, one, other):
    """All (n, j, i) at which the work of other at i comes ahead of that of one at j."""
    check_statement(program, one[0], one[1])
    check_statement(program, other[0], other[1])
    rows, ends = joined_at_last(sources_for(program).ahead_parts(tuple(one), tuple(other)), BOTH)
    return least_told_set(rows, ends)
