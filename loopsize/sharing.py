"""Whether two arrays can share one array, one of them moved by a shift."""

from loopsize.checks import check_array
from loopsize.conditionsets import between_machine
from loopsize.distances import cells_apart, triples_of
from loopsize.errors import BadNumber, SameArray
from loopsize.folding import failing_works, kept_sources
from loopsize.guesses import Guesses
from loopsize.kinds import is_natural
from loopsize.machines import BOTH, EITHER, empty_machine, joined, joined_freely, minimal, turned, widened_machine
from loopsize.searches import least_first


def shared_sources(program, x, y):
    """What tells the sources of a program, of which two arrays are kept between."""
    check_array(program, x)
    check_array(program, y)
    kept_sources(program, x)
    sources = kept_sources(program, y)
    if x == y:
        raise SameArray(x)
    return sources


def shift_triples(sources, x, y):
    """Tuples (triple, factors, constant): at a row (n, i, k) of the triple the sum is the shift that is wrong."""
    told = []
    for array, other, sign in ((x, y, -1), (y, x, 1)):
        for triple in triples_of(sources, array, other):
            factors, constant = cells_apart(sources.program, triple[1], triple[2])
            told.append((triple, tuple([sign * factor for factor in factors]), sign * constant))
    return told


def wrong_shifts(sources, x, y):
    """The machine of the shifts that are not right."""
    told = empty_machine(1)
    for triple, factors, constant in shift_triples(sources, x, y):
        apart = between_machine((*factors, -1), -constant, -constant)
        part = joined_freely(widened_machine(triple[3], 3), apart, BOTH)
        if True in part[1]:
            rows, ends = Guesses([part], (3,)).machine()
            told = joined(told, minimal(rows, ends), EITHER)
    return told


def share_least(program, x, y):
    """The least right shift, or None."""
    return least_first(turned(wrong_shifts(shared_sources(program, x, y), x, y)))


def check_shift(shift):
    if not is_natural(shift):
        raise BadNumber("shift", shift)


def share_is_right(program, x, y, shift):
    """Whether a shift is right."""
    sources = shared_sources(program, x, y)
    check_shift(shift)
    return first_failing(sources, x, y, shift) is None


def share_fails(program, x, y, shift):
    """(n, r, read, w, v): v writes the place of the cell of w between w and r; None if the shift is right."""
    sources = shared_sources(program, x, y)
    check_shift(shift)
    found = first_failing(sources, x, y, shift)
    return None if found is None else failing_works(sources, found)


def first_failing(sources, x, y, shift):
    """(n, triple, machine of the rows (n, i, k) of it that fail) of the least size; None if none fail."""
    best = None
    for triple, factors, constant in shift_triples(sources, x, y):
        failing = joined_freely(triple[3], between_machine(factors, shift - constant, shift - constant), BOTH)
        n = least_first(failing)
        if n is not None and (best is None or n < best[0]):
            best = (n, triple, failing)
    return best
