"""Windows of arrays that are kept between: how far the cells that are wanted at once are apart."""

from loopsize.checks import check_size
from loopsize.conditionsets import least_machine
from loopsize.cuts import left_machine
from loopsize.digitsets import MOST_STATES, told_set
from loopsize.distances import cells_apart, triples_of
from loopsize.errors import BadNumber, TooLarge, TooLong
from loopsize.extremes import extreme_rows
from loopsize.folding import kept_sources
from loopsize.guesses import Guesses
from loopsize.kinds import is_integer
from loopsize.layers import Layers
from loopsize.machines import BOTH, EITHER, FIRST_ALONE, full_machine, joined, joined_freely, minimal
from loopsize.machines import widened_machine
from loopsize.sumsat import SumsAt

MOST_BY_RESTS = 64
MOST_MULTIPLES = 2000
MOST_WINDOW = 2000
MANY_BUNDLES = 4000


def checked_triples(program, name, n):
    """The triples of an array that is kept between, for a size."""
    sources = kept_sources(program, name)
    check_size(n)
    return triples_of(sources, name, name)


def sums_at(program, triples, n):
    """The differences of cells at a size: tuples (layers, factors of the counters, constant). They are never 0, and
    without their signs they are the distances."""
    told = []
    for _, source, other, machine in triples:
        factors, constant = cells_apart(program, source, other)
        told.append((Layers(machine, n), factors[1:], factors[0] * n + constant))
    return told


def both_signs(entries):
    told = []
    for layers, factors, constant in entries:
        told.append((layers, factors, constant))
        told.append((layers, negative(factors), -constant))
    return told


def negative(factors):
    return tuple([-factor for factor in factors])


def window_of(entries):
    """One more than the greatest distance, 1 if there is none."""
    found = [0]
    for layers, factors, constant in both_signs(entries):
        if layers.has_rows:
            found.append(layers.greatest_sum(factors) + constant)
    return max(found) + 1


def window(program, name, n):
    """The window of an array at a size."""
    return window_of(sums_at(program, checked_triples(program, name, n), n))


def window_pairs(program, name):
    """The pairs (size, number) with a number below the window."""
    parts = window_parts(program, triples_of(kept_sources(program, name), name, name))
    least = least_machine((0, 0, 0, -1), 0)
    if parts and Guesses([least] + parts, (0, 3)).surely_above(MOST_STATES, MANY_BUNDLES, full_machine(2)):
        raise TooLarge(MOST_STATES)
    told = least_machine((0, -1), 0)
    for part in parts:
        # What is known need not be found again.
        rows, ends = joined_freely(part, widened_machine(widened_machine(told, 1), 2), FIRST_ALONE)
        if True in ends:
            told = joined(told, left_machine(left_machine(minimal(rows, ends), 2), 1), EITHER)
    return told_set(told)


def window_parts(program, triples):
    """Machines of rows (n, i, k, number): the number, from 1 on, is not greater than the distance of the cells."""
    told = []
    for _, source, other, machine in triples:
        factors, constant = cells_apart(program, source, other)
        for signed, start in ((factors, constant), (negative(factors), -constant)):
            extreme = extreme_rows(extreme_rows(machine, 2, signed[2]), 1, signed[1])
            below = joined_freely(least_machine((*signed, -1), -start), least_machine((0, 0, 0, 1), 1), BOTH)
            rows, ends = joined_freely(widened_machine(extreme, 3), below, BOTH)
            if True in ends:
                told.append((rows, ends))
    return told


def fold_is_right_at(program, name, n, m):
    """Whether m is right at a size."""
    triples = checked_triples(program, name, n)
    if not is_integer(m) or m < 1:
        raise BadNumber("m", m)
    entries = sums_at(program, triples, n)
    if m <= MOST_BY_RESTS:
        return not any([layers.has_rest(factors, m, -constant % m) for layers, factors, constant in entries])
    many = (window_of(entries) - 1) // m
    if many > MOST_MULTIPLES:
        raise TooLong(many)
    distances = SumsAt(both_signs(entries), 1)
    return not any([distances.has_number(m * (at + 1)) for at in range(many)])


def fold_least_at(program, name, n):
    """The least number that is right at a size."""
    entries = sums_at(program, checked_triples(program, name, n), n)
    many = window_of(entries)
    if many > MOST_WINDOW:
        raise TooLong(many)
    is_distance = [False] * many
    for number in SumsAt(both_signs(entries), 1).numbers_below(many.bit_length()):
        if number < many:
            is_distance[number] = True
    m = 1
    while True in is_distance[m::m]:
        m += 1
    return m
