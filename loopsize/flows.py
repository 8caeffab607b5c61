"""From which works reads take their values."""

from loopsize.checks import check_read, check_statement, statement_at
from loopsize.digitsets import told_set
from loopsize.machines import empty_machine
from loopsize.sources import Sources, reads_of


def takes(program, read, writer):
    """All (n, j, i) at which the source of the read at j is the work of writer at i."""
    check_read(program, read)
    check_statement(program, writer[0], writer[1])
    return told_set(takes_machine(Sources(program), tuple(read), tuple(writer)))


def takes_machine(sources, access, writer):
    if writer[0] > access[0]:
        return empty_machine(3)
    return sources.of_access(access, writer[0])[0].get(writer, empty_machine(3))


def takes_input(program, read):
    """All (n, j) at which the source of the read at j is the input."""
    check_read(program, read)
    return told_set(Sources(program).of_access(tuple(read), 0)[1])


def sources_of(program, read):
    """The statements from which the read takes at some size, ascending."""
    check_read(program, read)
    return tuple(sorted(Sources(program).of_access(tuple(read), 0)[0]))


def readers_of(program, writer):
    """The reads that take from the writer at some size, ascending."""
    check_statement(program, writer[0], writer[1])
    sources = Sources(program)
    told = []
    for read in reads_of(program, statement_at(program, writer[0], writer[1]).array):
        if read[0] >= writer[0] and tuple(writer) in sources.of_access(read, writer[0])[0]:
            told.append(read)
    return tuple(told)
