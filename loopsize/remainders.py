"""Sets of what remains of a machine without the rows of some others, with numbers of these left out, and of all rows
of some machines."""

from loopsize.cuts import left_machine
from loopsize.digitsets import MOST_STATES, set_without, told_set
from loopsize.errors import TooLarge
from loopsize.guesses import Guesses
from loopsize.largeness import is_laborious, surely_above
from loopsize.machines import empty_machine
from loopsize.sources import in_any

MANY_STATES = 2000
MANY_BUNDLES = 1000


def remaining_set(machine, parts, place):
    """The set of the pairs of a machine that no part has, with its number at the place, 1 or 2, left out."""
    if sum([len(part[0]) for part in parts]) > MANY_STATES:
        # To leave the number out may take long, and often it is seen at once that what remains is too large.
        if Guesses(parts, (0, 3 - place)).surely_above(MOST_STATES, MANY_BUNDLES, machine):
            raise TooLarge(MOST_STATES)
    return set_without(machine, [left_machine(part, place) for part in parts])


def united_set(arity, parts):
    """The set of the rows that are in one of some machines, at least one."""
    cases = [[part] for part in parts]
    if is_laborious(cases) and surely_above(cases, MOST_STATES):
        raise TooLarge(MOST_STATES)
    return told_set(in_any([empty_machine(arity)] + parts))
