"""Which works come between a read and its source, and how far their cells are from that of the source, by machines.

A triple is (read, source, other, machine): the rows (n, i, k) at which, between some work of the read and its source
at i, the work of the statement other at k comes. As the source is the last work ahead of the read to write the cell,
the other one always writes another cell.
"""

from loopsize.checks import statement_at
from loopsize.conditionsets import between_machine, in_all, least_machine
from loopsize.cuts import left_freely, left_machine
from loopsize.machines import BOTH, empty_machine, joined_freely, minimal, widened_machine
from loopsize.relations import ANY_GAP, difference_machine, gap_ahead
from loopsize.sources import in_any, is_empty, reads_of, writers_of


def triples_of(sources, array):
    """All triples of an array that have rows."""
    writers = writers_of(sources.program, array)
    told = []
    for read in reads_of(sources.program, array):
        taken = sources.taken_by(read)
        for source in taken:
            for other in writers:
                machine = between_works(sources, read, source, taken[source], other)
                if not is_empty(machine):
                    told.append((read, source, other, machine))
    return told


def between_works(sources, read, source, taken, other):
    """The machine of a triple, out of that of the rows (n, j, i) at which the read takes from the source."""
    behind = gap_ahead(sources.program, other, source)
    ahead = gap_ahead(sources.program, read[:2], other)
    if behind is None or ahead is None:
        return empty_machine(3)
    order = difference_machine((0, 1, -1), behind)
    return in_all([sources_with(taken, ahead), order, sources.wide_works(other, 1)])


def sources_with(taken, gap):
    """The rows (n, i, k) such that (n, j, i) is taken for some j with the gap k - j."""
    if gap == ANY_GAP:
        return widened_machine(left_machine(taken, 1), 2)
    rows, ends = joined_freely(widened_machine(taken, 3), difference_machine((0, -1, 0, 1), gap), BOTH)
    rows, ends = left_freely((rows, ends), 1)
    return minimal(rows, ends)


def cells_apart(program, source, other):
    """What the cell of other at k has ahead of that of source at i: the factors of (n, i, k), and the constant."""
    one = statement_at(program, source[0], source[1]).cell
    two = statement_at(program, other[0], other[1]).cell
    return (two.n - one.n, -one.i, two.i), two.one - one.one


def distance_machines(sources, array):
    """Machines of pairs (n, d) such that d is a distance of the array at n: each one is in one of them, at least."""
    together = {}
    for _, source, other, machine in triples_of(sources, array):
        together.setdefault((source, other), []).append(machine)
    told = [empty_machine(2)]
    for source, other in together:
        machine = widened_machine(in_any(together[(source, other)]), 3)
        factors, constant = cells_apart(sources.program, source, other)
        for sign in (1, -1):
            part = distances_in(machine, (*factors, -sign), constant)
            if not is_empty(part):
                told.append(part)
    return told


def distances_in(machine, factors, constant):
    """The pairs (n, d), d from 1 on, out of rows (n, i, k, d) with a sum of 0."""
    rows, ends = joined_freely(machine, between_machine(factors, -constant, -constant), BOTH)
    rows, ends = joined_freely((rows, ends), least_machine((0, 0, 0, 1), 1), BOTH)
    rows, ends = left_freely((rows, ends), 2)
    return left_machine(minimal(rows, ends), 1)
