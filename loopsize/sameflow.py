"""Whether a rewriting leaves to each read its source, and to each cell its last work."""

from loopsize.cuts import left_machine
from loopsize.lasts import stays_machine
from loopsize.machines import UNLIKE, empty_machine, joined
from loopsize.orders import check_whole, is_whole
from loopsize.rewriting import stands_for
from loopsize.shifts import first_at, least_size, moved_machine
from loopsize.sources import Sources, in_any, is_empty, reads_of, writers_of
from loopsize.turnings import turned_arrays


def unlike_flow(rewriting):
    """The first (n, work, read) that takes another value, or (n, work, None) that is the last one to write its cell
    in one of both programs alone, at the least size; None if the flow is the same."""
    check_whole(rewriting)
    return first_unlike_flow(rewriting)


def first_unlike_flow(rewriting):
    """The same of a rewriting that is whole."""
    before = Sources(rewriting.before)
    after = Sources(rewriting.after)
    reads = []
    works = []
    # The flow in an array hangs on nothing but the order of the works that meet there.
    for array in turned_arrays(rewriting):
        for read in reads_of(rewriting.before, array):
            reads.append((*read, unlike_reads(rewriting, before, after, read)))
        for writer in writers_of(rewriting.before, array):
            works.append((*writer, 0, unlike_works(rewriting, before, after, writer)))
    return first_unlike(rewriting.before, kept_entries(reads), kept_entries(works))


def kept_entries(found):
    return [entry for entry in found if not is_empty(entry[3])]


def first_unlike(program, reads, works):
    n = least_size([entry[3] for entry in reads + works])
    if n is None:
        return None
    first = first_at(program, n, reads)
    if first is not None:
        return n, first[:3], first[3]
    return n, first_at(program, n, works)[:3], None


def unlike_reads(rewriting, before, after, read):
    """The pairs (n, j) at which a read takes from unlike works in both programs."""
    one = before.of_access(read, 0)[0]
    other = taken_after(rewriting, after, read)
    unlike = [empty_machine(2)]
    for writer in sorted(set([*one, *other])):
        parts = joined(one.get(writer, empty_machine(3)), other.get(writer, empty_machine(3)), UNLIKE)
        unlike.append(left_machine(parts, 2))
    return in_any(unlike)


def taken_after(rewriting, after, read):
    """From which works a read of the program before takes in the one after: for each writer the rows (n, j, i), with
    the counters that both have in the program before."""
    told = {}
    for loop, statement, shift in stands_for(rewriting, read[0], read[1]):
        taken = after.of_access((loop, statement, read[2]), 0)[0]
        for writer in taken:
            first, number, more = rewriting.origins[writer[0]][writer[1]]
            machine = moved_machine(moved_machine(taken[writer], 1, shift), 2, more)
            known = told.get((first, number), empty_machine(3))
            told[(first, number)] = in_any([known, machine])
    return told


def unlike_works(rewriting, before, after, writer):
    """The pairs (n, i) at which a work is the last one to write its cell in one of both programs alone."""
    there = [empty_machine(2)]
    for loop, statement, shift in stands_for(rewriting, writer[0], writer[1]):
        there.append(moved_machine(stays_machine(after, (loop, statement)), 1, shift))
    return joined(stays_machine(before, writer), in_any(there), UNLIKE)


def has_same_flow(rewriting):
    """Whether the rewriting is whole and the flow is the same."""
    return is_whole(rewriting) and first_unlike_flow(rewriting) is None
