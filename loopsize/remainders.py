"""Sets of what remains of a machine without the rows of some others, with numbers of these left out."""

from loopsize.cuts import left_machine
from loopsize.digitsets import MOST_STATES, set_without
from loopsize.errors import TooLarge
from loopsize.guesses import Guesses

MANY_STATES = 2000
MANY_BUNDLES = 1000


def remaining_set(machine, parts, place):
    """The set of the pairs of a machine that no part has, with its number at the place, 1 or 2, left out."""
    if sum([len(part[0]) for part in parts]) > MANY_STATES:
        # To leave the number out may take long, and often it is seen at once that what remains is too large.
        if Guesses(parts, (0, 3 - place)).surely_above(MOST_STATES, MANY_BUNDLES, machine):
            raise TooLarge(MOST_STATES)
    return set_without(machine, [left_machine(part, place) for part in parts])
