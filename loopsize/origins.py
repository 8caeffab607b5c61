"""Where values come from, for all sizes at once: what is behind all copies."""

from loopsize.checks import check_array, check_read, statement_at
from loopsize.conditionsets import between_machine
from loopsize.cuts import left_machine
from loopsize.endings import add_input, endings_for
from loopsize.lasts import staying
from loopsize.machines import BOTH, EITHER, UNLIKE, empty_machine, full_machine, joined, widened_machine
from loopsize.relations import value_machine
from loopsize.remainders import united_set
from loopsize.sources import in_any, is_empty, without_all, writers_of


def origins(program, read):
    """For each end of the paths of a read the set of all (n, j, c), or (n, j, i), that end there."""
    check_read(program, read)
    return told_ends(ends_of_read(endings_for(program), tuple(read)))


def contents(program, array):
    """For each end of what the cells of an array hold at the end the set of all (n, cell, c), or (n, cell, i)."""
    check_array(program, array)
    return told_ends(ends_of_cells(endings_for(program), array))


def told_ends(ends):
    return tuple([(end, united_set(3, ends[end])) for end in sorted(ends)])


def ends_of_read(endings, read):
    """For each end of the paths of a read the machines of rows (n, j, e). Refuses paths with too many stretches."""
    first = endings.sources.taken_by(read)
    endings.check_depth(first, lambda log: starts_of_read(log, read))
    told = endings.ends_from(first)
    add_input(told, widened_alike(endings.sources.works_of(read[:2])), read, endings)
    return told


def starts_of_read(log, read):
    """The pairs (counter, source) of a read, counters ascending."""
    told = []
    for work, taken in zip(log.works, log.takes):
        if (work[0], work[2]) == read[:2]:
            told.append((work[1], taken[read[2]][2]))
    return told if len(told) < 2 or told[0][0] < told[1][0] else told[::-1]


def starts_of_cells(log, array):
    """The pairs (cell, last work) of an array, cells from 0 on ascending."""
    last = {cell: work for work, (name, cell) in zip(log.works, log.writes) if name == array and cell >= 0}
    return [(cell, last[cell]) for cell in sorted(last)]


def widened_alike(machine):
    """The rows (n, j, j) for the pairs (n, j) of a machine."""
    return joined(widened_machine(machine, 1), between_machine((0, 1, -1), 0, 0), BOTH)


def ends_of_cells(endings, array):
    """For each end of what the cells of an array hold the machines of rows (n, c, e). Refuses as above."""
    sources = endings.sources
    first = {}
    written = []
    for writer in writers_of(endings.program, array):
        value = value_machine(statement_at(endings.program, writer[0], writer[1]).cell)
        written.append(left_machine(joined(value, sources.wide_works(writer, 1), BOTH), 2))
        rows = joined(value, widened_machine(staying(sources, writer), 1), BOTH)
        if not is_empty(rows):
            first[writer] = rows
    endings.check_depth(first, lambda log: starts_of_cells(log, array))
    told = endings.ends_from(first)
    untouched = without_all(full_machine(2), written)
    if not is_empty(untouched):
        told.setdefault(("input", array), []).append(widened_alike(untouched))
    return told


def unlike_ends(one, other):
    """The machine of the pairs (n, j) whose paths do not end alike: the ends are those of two programs."""
    told = empty_machine(2)
    for end in list({**one, **other}):
        there = [in_any([empty_machine(3)] + ends.get(end, [])) for ends in (one, other)]
        told = joined(told, left_machine(joined(there[0], there[1], UNLIKE), 2), EITHER)
    return told
