"""Works whose values nobody reads, and the works that write over others."""

from loopsize.checks import check_statement, statement_at
from loopsize.flows import taken_set
from loopsize.lasts import later_writes
from loopsize.machines import FIRST_ALONE, joined
from loopsize.remainders import remaining_set
from loopsize.sources import is_empty, reads_of, sources_for, without_all


def unread(program, writer):
    """All (n, i) at which the work of writer at i is the source of no read."""
    check_statement(program, writer[0], writer[1])
    sources = sources_for(program)
    return remaining_set(sources.works_of(tuple(writer)), takings(sources, tuple(writer)), 1)


def takings(sources, writer):
    """Machines of rows (n, j, i) at which the work of writer at i is the source of a read at j."""
    told = []
    for read in reads_of(sources.program, statement_at(sources.program, writer[0], writer[1]).array):
        taken = sources.taken_from(read, writer)
        if not is_empty(taken):
            told.append(taken)
    return told


def idle(program, writer):
    """All (n, i) of unread that are not in stays."""
    check_statement(program, writer[0], writer[1])
    sources = sources_for(program)
    works = sources.works_of(tuple(writer))
    staying = without_all(works, later_writes(sources, tuple(writer)))
    return remaining_set(joined(works, staying, FIRST_ALONE), takings(sources, tuple(writer)), 1)


def overwritten(program, writer, other):
    """All (n, j, i) at which the work of other at j is the next one to write the cell of that of writer at i.

    So the latter is the source that the write of the former would have.
    """
    check_statement(program, writer[0], writer[1])
    loop, statement = other
    check_statement(program, loop, statement)
    write = (loop, statement, len(statement_at(program, loop, statement).reads))
    return taken_set(sources_for(program), write, tuple(writer))
