"""From which works reads take their values."""

from loopsize.checks import check_read, check_statement, statement_at
from loopsize.digitsets import set_without, told_set
from loopsize.remainders import remaining_set
from loopsize.sources import is_empty, reads_of, sources_for


def takes(program, read, writer):
    """All (n, j, i) at which the source of the read at j is the work of writer at i."""
    check_read(program, read)
    check_statement(program, writer[0], writer[1])
    return taken_set(sources_for(program), tuple(read), tuple(writer))


def taken_set(sources, access, writer):
    """All (n, j, i) at which the source of an access at j is the work of writer at i."""
    candidates = sources.candidates(access, writer)
    if is_empty(candidates):
        return told_set(candidates)
    return set_without(candidates, sources.parts_behind(access, writer))


def takes_input(program, read):
    """All (n, j) at which the source of the read at j is the input."""
    check_read(program, read)
    sources = sources_for(program)
    return remaining_set(sources.works_of(tuple(read)[:2]), sources.candidates_from(tuple(read), 0), 2)


def sources_of(program, read):
    """The statements from which the read takes at some size, ascending."""
    check_read(program, read)
    return tuple(sorted(sources_for(program).taken_by(tuple(read))))


def readers_of(program, writer):
    """The reads that take from the writer at some size, ascending."""
    check_statement(program, writer[0], writer[1])
    sources = sources_for(program)
    told = []
    for read in reads_of(program, statement_at(program, writer[0], writer[1]).array):
        if not is_empty(sources.taken_from(read, tuple(writer))):
            told.append(read)
    return tuple(told)
