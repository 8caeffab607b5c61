"""Whether a rewriting leaves to each read its source, and to each cell its last work."""

from loopsize.lasts import source_at, staying
from loopsize.machines import EITHER, FIRST_ALONE, UNLIKE, empty_machine, joined, joined_freely, reordered_machine
from loopsize.orders import check_whole, is_whole
from loopsize.rewriting import stands_for
from loopsize.runs import log_program
from loopsize.shifts import first_at, least_size, moved_machine
from loopsize.sources import in_any, reads_of, sources_for, writers_of
from loopsize.turnings import WRITE, read_of, turnings_of

SMALL_SIZES = 6
MANY_TURNS = 1000


def unlike_flow(rewriting):
    """The first (n, work, read) that takes another value, or (n, work, None) that is the last one to write its cell
    in one of both programs alone, at the least size; None if the flow is the same."""
    check_whole(rewriting)
    return first_unlike_flow(rewriting)


def first_unlike_flow(rewriting):
    """The same of a rewriting that is whole."""
    turnings = turnings_of(rewriting)
    # Sources hang on the order of a read and the writes of its cell, and on that of the writes ahead of it, alone.
    mixed = turnings.mixed_arrays()
    reads = turnings.moved_reads(mixed)
    if not reads and not mixed:
        return None
    # Below the least size at which works are turned about the flow is the same.
    least = least_size([meeting.machine() for meeting in turnings.pairs()])
    early = early_unlike(rewriting, least) if mixed else first_moved(rewriting, least)
    if early is not None:
        return early
    before = sources_for(rewriting.before)
    after = sources_for(rewriting.after)
    writers = []
    for array in mixed:
        reads = reads + [read for read in reads_of(rewriting.before, array) if read[0] >= mixed[array]]
        writers = writers + writers_of(rewriting.before, array)
    unlike_there = [(*read, machine) for read in reads for machine in unlike_reads(rewriting, before, after, read)]
    works = [(*writer, 0, unlike_works(rewriting, before, after, writer)) for writer in writers]
    return first_unlike(rewriting.before, kept_entries(unlike_there), kept_entries(works))


def first_moved(rewriting, n):
    """(n, work, read) of the first read that changes places with a write of its cell at a size, if it takes another
    value; otherwise None. No two writes of a cell change places."""
    found = []
    for meeting in turnings_of(rewriting).pairs():
        read = read_of(meeting)
        machine = meeting.machine()
        found.append((*read, reordered_machine(machine, (0, 2, 1)) if meeting.accesses[0] == WRITE else machine))
    loop, counter, statement, number = first_at(rewriting.before, [n], found)
    work = (loop, counter, statement)
    there = rewriting.places(n, work)[0]
    source = source_at(rewriting.before, n, (loop, statement, number), counter)
    other = source_at(rewriting.after, n, (there[0], there[2], number), there[1])
    if source == (None if other is None else rewriting.origin(other)):
        return None
    return n, work, number


def early_unlike(rewriting, least):
    """What is seen at some small sizes already, by plain logs: there most flows that are not the same differ."""
    for n in range(least, SMALL_SIZES):
        loops = rewriting.before.loops + rewriting.after.loops
        if sum([loop.many_turns(n) for loop in loops]) > MANY_TURNS:
            return None
        found = unlike_at(rewriting, log_program(rewriting.before, n), log_program(rewriting.after, n))
        if found is not None:
            return n, found[0], found[1]
    return None


def unlike_at(rewriting, one, other):
    """What comes first by the logs of both programs at a size: (work, read), (work, None), or None."""
    taken = {rewriting.origin(work): parts for work, parts in zip(other.works, other.takes)}
    for work, parts in zip(one.works, one.takes):
        for number, (_, _, source) in enumerate(parts):
            there = taken[work][number][2]
            if source != (None if there is None else rewriting.origin(there)):
                return work, number
    for work, (array, cell) in zip(one.works, one.writes):
        is_last = one.last_writer(array, cell) == work
        if is_last != (rewriting.origin(other.last_writer(array, cell)) == work):
            return work, None
    return None


def kept_entries(found):
    return [entry for entry in found if True in entry[3][1]]


def first_unlike(program, reads, works):
    n = least_size([entry[3] for entry in reads + works])
    if n is None:
        return None
    first = first_at(program, [n], reads)
    if first is not None:
        return n, first[:3], first[3]
    return n, first_at(program, [n], works)[:3], None


def unlike_reads(rewriting, before, after, read):
    """Machines of rows (n, j, i): at the counters j of one of them a read takes from unlike works in both programs, or
    in one program alone from the input. They may have more states than are needed."""
    one = before.taken_by(read)
    other = taken_after(rewriting, after, read)
    unlike = []
    for writer in one:
        lost = one[writer]
        unlike.append(joined_freely(lost, other[writer], FIRST_ALONE) if writer in other else lost)
    # If the source is the input before, the work from which the read takes after did not come ahead of it before.
    for writer in other:
        unlike.append(joined_freely(other[writer], before.candidates(read, writer), FIRST_ALONE))
    return unlike


def taken_after(rewriting, after, read):
    """From which works a read of the program before takes in the one after: for each writer the rows (n, j, i), with
    the counters in the program before."""
    told = {}
    for loop, statement, shift in stands_for(rewriting, read[0], read[1]):
        taken = after.taken_by((loop, statement, read[2]))
        for writer in taken:
            first, number, more = rewriting.origins[writer[0]][writer[1]]
            machine = moved_machine(moved_machine(taken[writer], 1, shift), 2, more)
            if (first, number) in told:
                machine = joined(told[(first, number)], machine, EITHER)
            told[(first, number)] = machine
    return told


def unlike_works(rewriting, before, after, writer):
    """The pairs (n, i) at which a work is the last one to write its cell in one of both programs alone."""
    there = [empty_machine(2)]
    for loop, statement, shift in stands_for(rewriting, writer[0], writer[1]):
        there.append(moved_machine(staying(after, (loop, statement)), 1, shift))
    return joined_freely(staying(before, writer), in_any(there), UNLIKE)


def has_same_flow(rewriting):
    """Whether the rewriting is whole and the flow is the same."""
    return is_whole(rewriting) and first_unlike_flow(rewriting) is None
