"""In how few places an array can be kept that is used in between only."""

from math import gcd

from loopsize.checks import check_array
from loopsize.conditionsets import rest_machine
from loopsize.cuts import put_machine
from loopsize.digitsets import MOST_STATES, told_set
from loopsize.distances import cells_apart, distance_numbers, distance_pairs, triples_of
from loopsize.errors import BadNumber, NotKept, TooLarge
from loopsize.kinds import is_integer, is_integer_from
from loopsize.machines import BOTH, joined_freely
from loopsize.members import tail_of_machine
from loopsize.relations import gap_ahead
from loopsize.runs import log_program
from loopsize.searches import least_first, least_row
from loopsize.shifts import first_at, least_size
from loopsize.sources import is_empty, reads_of, sources_for, without_all

MOST_FAILING = 100
SMALL_SIZES = 5
MANY_TURNS = 40


def kept_sources(program, array):
    """What tells the sources of a program; refuses an array of which some read takes the value of the beginning."""
    check_array(program, array)
    sources = sources_for(program)
    found = first_not_kept(sources, array)
    if found is not None:
        raise NotKept(found[0], found[1], found[2])
    return sources


def first_not_kept(sources, array):
    """(n, work, read) of what takes a value of the beginning first; None if the array is kept between."""
    key = ("kept", array)
    if key not in sources.told:
        early = early_not_kept(sources.program, array)
        sources.told[key] = not_kept_at_all(sources, array) if early is None else early
    return sources.told[key]


def not_kept_at_all(sources, array):
    """The same, without a look at small sizes first."""
    program = sources.program
    found = []
    for read in reads_of(program, array):
        machine = without_all(sources.works_of(read[:2]), sources.reaches_from(read, 0))
        if not is_empty(machine):
            found.append((*read, machine))
    if not found:
        return None
    n = least_size([entry[3] for entry in found])
    loop, counter, statement, number = first_at(program, [n], found)
    return n, (loop, counter, statement), number


def early_not_kept(program, array):
    """What is seen at some small sizes already, by plain logs: (n, work, read), or None."""
    for n in range(SMALL_SIZES):
        if sum([loop.many_turns(n) for loop in program.loops]) > MANY_TURNS:
            return None
        log = log_program(program, n)
        for work, taken in zip(log.works, log.takes):
            for number, (name, _, source) in enumerate(taken):
                if name == array and source is None:
                    return n, work, number
    return None


def fold_distances(program, name):
    """The pairs (size, distance)."""
    machine = distance_pairs(kept_sources(program, name), name, MOST_STATES)
    if machine is None:
        raise TooLarge(MOST_STATES)
    return told_set(machine)


def tail_of_distances(sources, name):
    """How the distances of all sizes go on: (start, period, rests, early)."""
    key = ("tail", name)
    if key not in sources.told:
        sources.told[key] = tail_of_machine(distance_numbers(sources, name))
    return sources.told[key]


def fold_least(program, name):
    """The least right number, or None."""
    return least_right(kept_sources(program, name), name)


def least_right(sources, name):
    """The same for an array that is kept between."""
    start, period, rests, early = tail_of_distances(sources, name)
    if 0 in rests:
        return None
    is_early = {number: True for number in early}
    is_wrong = {}
    m = 0
    while True:
        m += 1
        common = gcd(m, period)
        if common not in is_wrong:
            is_wrong[common] = divides_one(common, rests)
        if not is_wrong[common] and not any([d in is_early for d in range(m, start, m)]):
            return m


def divides_one(m, numbers):
    return any([number % m == 0 for number in numbers])


def fold_is_right(program, name, m):
    """Whether m is right."""
    sources = kept_sources(program, name)
    if not is_integer(m) or m < 1:
        raise BadNumber("m", m)
    return divides_none(tail_of_distances(sources, name), m)


def divides_none(tail, m):
    """Whether a number divides none of those that go on so."""
    _, period, rests, early = tail
    return not divides_one(gcd(m, period), rests) and not divides_one(m, early)


def fold_fails(program, name, m):
    """(n, r, read, w, v) with a distance that m divides, at the least size; None if m is right."""
    sources = kept_sources(program, name)
    if not is_integer_from(m, 1, MOST_FAILING):
        raise BadNumber("m", m)
    if ("tail", name) in sources.told and divides_none(sources.told[("tail", name)], m):
        return None
    best = None
    for triple in triples_of(sources, name, name):
        factors, constant = cells_apart(program, triple[1], triple[2])
        failing = joined_freely(triple[3], rest_machine(factors, m, (-constant % m,)), BOTH)
        n = least_first(failing)
        if n is not None and (best is None or n < best[0]):
            best = (n, triple, failing)
    return None if best is None else failing_works(sources, best)


def failing_works(sources, found):
    """The works of a size, a triple and the machine of the rows of it that fail."""
    n, triple, failing = found
    read, source, other, _ = triple
    n, i, k = least_row(failing, 3, n)
    taken = sources.taken_from(read, source)
    most = gap_ahead(sources.program, read[:2], other)[1]
    readers = put_machine(put_machine(taken, 2, i), 0, n)
    j = least_row(readers, 1, 0 if most is None else max(0, k - most))[0]
    return n, (read[0], j, read[1]), read[2], (source[0], i, source[1]), (other[0], k, other[1])
