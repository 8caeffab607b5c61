"""Which works come between a read and its source, and how far their cells are from that of the source, by machines.

A triple is (read, source, other, machine): the rows (n, i, k) at which, between some work of the read and its source
at i, the work of the statement other at k comes. As the source is the last work ahead of the read to write the cell,
the other one always writes another cell.
"""

from loopsize.checks import statement_at
from loopsize.conditionsets import between_machine, in_all, least_machine
from loopsize.cuts import left_freely, left_machine
from loopsize.guesses import Guesses
from loopsize.machines import BOTH, EITHER, FIRST_ALONE, empty_machine, full_machine, joined, joined_freely
from loopsize.machines import minimal, widened_machine
from loopsize.relations import ANY_GAP, difference_machine, gap_ahead
from loopsize.sources import is_empty, reads_of, writers_of

MANY_BUNDLES = 1000


def triples_of(sources, array, written):
    """All triples with rows: of the reads of an array, and of the statements that write it, or another one."""
    writers = writers_of(sources.program, written)
    told = []
    for read in reads_of(sources.program, array):
        taken = sources.taken_by(read)
        for source in taken:
            for other in writers:
                machine = between_works(sources, read, source, taken[source], other)
                if not is_empty(machine):
                    told.append((read, source, other, machine))
    return told


def between_works(sources, read, source, taken, other):
    """The machine of a triple, out of that of the rows (n, j, i) at which the read takes from the source."""
    behind = gap_ahead(sources.program, other, source)
    ahead = gap_ahead(sources.program, read[:2], other)
    if behind is None or ahead is None:
        return empty_machine(3)
    order = difference_machine((0, 1, -1), behind)
    return in_all([sources_with(taken, ahead), order, sources.wide_works(other, 1)])


def sources_with(taken, gap):
    """The rows (n, i, k) such that (n, j, i) is taken for some j with the gap k - j."""
    if gap == ANY_GAP:
        return widened_machine(left_machine(taken, 1), 2)
    rows, ends = joined_freely(widened_machine(taken, 3), difference_machine((0, -1, 0, 1), gap), BOTH)
    rows, ends = left_freely((rows, ends), 1)
    return minimal(rows, ends)


def cells_apart(program, source, other):
    """What the cell of other at k has ahead of that of source at i: the factors of (n, i, k), and the constant."""
    one = statement_at(program, source[0], source[1]).cell
    two = statement_at(program, other[0], other[1]).cell
    return (two.n - one.n, -one.i, two.i), two.one - one.one


def distance_rows(sources, array):
    """Machines of rows (n, i, k, d) such that d is a distance of the array at n: all distances are in one of them."""
    told = []
    for _, source, other, machine in triples_of(sources, array, array):
        factors, constant = cells_apart(sources.program, source, other)
        for sign in (1, -1):
            apart = between_machine((*factors, -sign), -constant, -constant)
            part = in_all([apart, least_machine((0, 0, 0, 1), 1), widened_machine(machine, 3)])
            if not is_empty(part) and part not in told:
                told.append(part)
    return told


def distance_numbers(sources, array):
    """The machine of all distances of an array."""
    told = empty_machine(1)
    for part in distance_rows(sources, array):
        rows, ends = Guesses([part], (3,)).machine()
        told = joined(told, minimal(rows, ends), EITHER)
    return told


def distance_pairs(sources, array, most):
    """The machine of the pairs (n, d) such that d is a distance of the array at n; None if it surely has more states
    than these."""
    parts = distance_rows(sources, array)
    if parts and Guesses(parts, (0, 3)).surely_above(most, MANY_BUNDLES, full_machine(2)):
        return None
    told = empty_machine(2)
    for part in sorted(parts, key=many_states):
        # What is known need not be found again: often nothing is left of what would take longest.
        known = widened_machine(widened_machine(told, 1), 2)
        rows, ends = joined_freely(part, known, FIRST_ALONE)
        if True in ends:
            told = joined(told, left_machine(left_machine(minimal(rows, ends), 2), 1), EITHER)
    return told


def many_states(machine):
    return len(machine[0])
