"""Works whose values nobody reads, and the works that write over others."""

from loopsize.checks import check_statement, statement_at
from loopsize.cuts import left_machine
from loopsize.digitsets import told_set
from loopsize.lasts import stays_machine
from loopsize.machines import FIRST_ALONE, joined
from loopsize.sources import Sources, reads_of


def unread(program, writer):
    """All (n, i) at which the work of writer at i is the source of no read."""
    check_statement(program, writer[0], writer[1])
    return told_set(unread_machine(Sources(program), tuple(writer)))


def unread_machine(sources, writer):
    told = sources.works_of(writer)
    for read in reads_of(sources.program, statement_at(sources.program, writer[0], writer[1]).array):
        told = joined(told, left_machine(sources.taken_from(read, writer), 1), FIRST_ALONE)
    return told


def idle(program, writer):
    """All (n, i) of unread that are not in stays."""
    check_statement(program, writer[0], writer[1])
    sources = Sources(program)
    told = unread_machine(sources, tuple(writer))
    return told_set(joined(told, stays_machine(sources, tuple(writer)), FIRST_ALONE))


def overwritten(program, writer, other):
    """All (n, j, i) at which the work of other at j is the next one to write the cell of that of writer at i.

    So the latter is the source that the write of the former would have.
    """
    check_statement(program, writer[0], writer[1])
    loop, statement = other
    check_statement(program, loop, statement)
    write = (loop, statement, len(statement_at(program, loop, statement).reads))
    return told_set(Sources(program).taken_from(write, tuple(writer)))
