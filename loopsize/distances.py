"""Which works come between a read and its source, and how far their cells are from that of the source, by machines.

A triple is (read, source, other, machine): the rows (n, i, k) at which, between some work of the read and its source
at i, the work of the statement other at k comes. As the source is the last work ahead of the read to write the cell,
the other one always writes another cell.
"""

from loopsize.checks import statement_at
from loopsize.conditionsets import between_machine, in_all
from loopsize.cuts import left_freely, left_machine
from loopsize.guesses import Guesses
from loopsize.machines import BOTH, EITHER, FIRST_ALONE, empty_machine, full_machine, joined, joined_freely
from loopsize.machines import minimal, widened_machine
from loopsize.relations import ANY_GAP, common_gap, constant_difference, difference_machine, gap_ahead, gap_machine
from loopsize.sources import is_empty, reads_of, writers_of

MANY_BUNDLES = 1000


def triples_of(sources, array, written):
    """All triples with rows: of the reads of an array, and of the statements that write it, or another one."""
    key = ("triples", array, written)
    if key not in sources.told:
        told = []
        writers = writers_of(sources.program, written)
        for read in reads_of(sources.program, array):
            taken = sources.taken_by(read)
            for source in taken:
                between = Between(sources, read, source, taken[source])
                for other in writers:
                    machine = between.works(other)
                    if not is_empty(machine):
                        told.append((read, source, other, machine))
        sources.told[key] = told
    return sources.told[key]


class Between:
    """The works between a read and its source, out of the rows (n, j, i) at which the read takes from the source."""

    def __init__(self, sources, read, source, taken):
        self.sources = sources
        self.read = read
        self.source = source
        self.taken = taken
        self.apart = constant_difference(taken)
        self.wide = widened_machine(left_machine(taken, 1), 2)

    def works(self, other):
        """The rows (n, i, k) at which the work of the statement other at k comes between."""
        program = self.sources.program
        behind = gap_ahead(program, other, self.source)
        ahead = gap_ahead(program, self.read[:2], other)
        if behind is None or ahead is None:
            return empty_machine(3)
        if ahead == ANY_GAP:
            order = [self.wide, difference_machine((0, 1, -1), behind)]
        elif self.apart is not None:
            # The gap k - i is that of k and j, and of j and i together.
            near = tuple([None if bound is None else bound + self.apart for bound in ahead])
            far = tuple([None if bound is None else -bound for bound in behind[::-1]])
            gap = common_gap(near, far)
            if None not in gap and gap[0] > gap[1]:
                return empty_machine(3)
            order = [gap_machine(gap), self.wide]
        else:
            order = [rows_with(self.taken, ahead), difference_machine((0, 1, -1), behind)]
        return in_all(order + [self.sources.wide_works(other, 1)])


def rows_with(taken, gap):
    """The rows (n, i, k) such that (n, j, i) is taken for some j with the gap k - j."""
    rows, ends = joined_freely(widened_machine(taken, 3), difference_machine((0, -1, 0, 1), gap), BOTH)
    rows, ends = left_freely((rows, ends), 1)
    return minimal(rows, ends)


def cells_apart(program, source, other):
    """What the cell of other at k has ahead of that of source at i: the factors of (n, i, k), and the constant."""
    one = statement_at(program, source[0], source[1]).cell
    two = statement_at(program, other[0], other[1]).cell
    return (two.n - one.n, -one.i, two.i), two.one - one.one


def distance_rows(sources, array):
    """Machines of rows (n, i, k, d) such that d is a distance of the array at n: all distances are in one of them."""
    told = []
    for _, source, other, machine in triples_of(sources, array, array):
        factors, constant = cells_apart(sources.program, source, other)
        for sign in (1, -1):
            apart = between_machine((*factors, -sign), -constant, -constant)
            part = joined(apart, widened_machine(machine, 3), BOTH)
            if not is_empty(part) and part not in told:
                told.append(part)
    return told


def distance_numbers(sources, array):
    """The machine of all distances of an array."""
    told = empty_machine(1)
    for _, source, other, machine in triples_of(sources, array, array):
        factors, constant = cells_apart(sources.program, source, other)
        if factors[0] == 0:
            # The size is left out ahead of the counters, as the distance hangs on these alone.
            factors = factors[1:]
            machine = left_machine(machine, 0)
        places = len(factors)
        for sign in (1, -1):
            known = told
            for _ in range(places):
                known = widened_machine(known, 0)
            apart = between_machine((*factors, -sign), -constant, -constant)
            fresh = joined_freely(apart, known, FIRST_ALONE)
            part = joined_freely(fresh, widened_machine(machine, places), BOTH)
            if True in part[1]:
                rows, ends = Guesses([part], (places,)).machine()
                told = joined(told, minimal(rows, ends), EITHER)
    return told


def distance_pairs(sources, array, most):
    """The machine of the pairs (n, d) such that d is a distance of the array at n; None if it surely has more states
    than these."""
    parts = distance_rows(sources, array)
    if parts and Guesses(parts, (0, 3)).surely_above(most, MANY_BUNDLES, full_machine(2)):
        return None
    told = empty_machine(2)
    for part in sorted(parts, key=many_states):
        # What is known need not be found again: often nothing is left of what would take longest.
        known = widened_machine(widened_machine(told, 1), 2)
        rows, ends = joined_freely(part, known, FIRST_ALONE)
        if True in ends:
            told = joined(told, left_machine(left_machine(minimal(rows, ends), 2), 1), EITHER)
    return told


def many_states(machine):
    return len(machine[0])
