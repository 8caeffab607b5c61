"""Which turns of a loop are in conflict, told by machines of rows (n, i, j) with i < j."""

from loopsize.checks import statement_at
from loopsize.conditionsets import between_machine, in_all
from loopsize.cuts import left_machine
from loopsize.lasts import staying
from loopsize.machines import BOTH, EITHER, empty_machine, joined, reordered_machine, widened_machine
from loopsize.relations import cells_machine, cells_sum, gap_machine
from loopsize.sources import is_empty, reads_of, without_all, writers_in
from loopsize.straights import place_like


def ordered_parts(machine):
    """The rows of a machine with one turn ahead of the other one, the lesser counter put first."""
    told = []
    for rows in (machine, reordered_machine(machine, (0, 2, 1))):
        part = joined(rows, gap_machine((1, None)), BOTH)
        if not is_empty(part):
            told.append(part)
    return told


def value_parts(sources, loop):
    """Where a turn takes a value from another one."""
    told = []
    for read in reads_in(sources.program, loop):
        for writer in sources.writers_for(read, loop):
            told.extend(ordered_parts(sources.taken_from(read, writer)))
    return told


def reads_in(program, loop):
    told = []
    for number, statement in enumerate(program.loops[loop].statements):
        told.extend([(loop, number, read) for read in range(len(statement.reads))])
    return told


def free_parts(sources, loop, wanted):
    """Where a turn reads a cell that it has not written itself and the other one writes, or both write a cell that
    counts. wanted has the names of arrays, or is None."""
    told = []
    for read in reads_in(sources.program, loop):
        taken = statement_at(sources.program, loop, read[1]).reads[read[2]]
        own = bare_reads(sources, read, taken)
        for writer in writers_in(sources.program, loop, taken.array):
            cell = statement_at(sources.program, loop, writer[1]).cell
            same = joined(cells_machine(taken.place, cell), sources.wide_works(writer, 1), BOTH)
            told.extend(ordered_parts(joined(same, widened_machine(own, 2), BOTH)))
    return told + counting_parts(sources, loop, wanted)


def bare_reads(sources, read, taken):
    """The works (n, i) of a read whose cell no earlier work of the same turn writes."""
    program = sources.program
    written = []
    for writer in writers_in(program, read[0], taken.array):
        if writer[1] < read[1]:
            at_size, at_place, at_cell, start = cells_sum(taken.place, statement_at(program, read[0], writer[1]).cell)
            same = between_machine((at_size, at_place + at_cell), start, start + taken.place.divisor - 1)
            written.append(joined(same, sources.works_of(writer), BOTH))
    return without_all(sources.works_of(read[:2]), written)


def counting_parts(sources, loop, wanted):
    """Where both turns write one cell that counts."""
    program = sources.program
    told = []
    for number, statement in enumerate(program.loops[loop].statements):
        writers = writers_in(program, loop, statement.array)
        counting = None
        for other in writers:
            cell = statement_at(program, loop, other[1]).cell
            same = joined(cells_machine(place_like(statement.cell), cell), gap_machine((1, None)), BOTH)
            if not is_empty(same):
                if counting is None:
                    counting = counting_writes(sources, (loop, number), writers, wanted)
                part = in_all([same, widened_machine(counting, 2), sources.wide_works(other, 1)])
                if not is_empty(part):
                    told.append(part)
    return told


def counting_writes(sources, writer, writers, wanted):
    """The works (n, i) of a writer whose cell counts: it holds at the end of the loop what some work of the writers
    wrote, and that is wanted."""
    told = empty_machine(2)
    cell = statement_at(sources.program, writer[0], writer[1]).cell
    for last in writers:
        kept = wanted_writes(sources, last, wanted)
        same = cells_machine(place_like(cell), statement_at(sources.program, last[0], last[1]).cell)
        told = joined(told, left_machine(joined(same, widened_machine(kept, 1), BOTH), 2), EITHER)
    return joined(told, sources.works_of(writer), BOTH)


def wanted_writes(sources, writer, wanted):
    """The works (n, i) of a writer whose value is taken by a later loop, or stays in a wanted array."""
    array = statement_at(sources.program, writer[0], writer[1]).array
    told = empty_machine(2)
    for read in reads_of(sources.program, array):
        if read[0] > writer[0]:
            told = joined(told, left_machine(sources.taken_from(read, writer), 1), EITHER)
    if wanted is None or array in wanted:
        told = joined(told, staying(sources, writer), EITHER)
    return told
