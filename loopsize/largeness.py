"""Whether a set that is told by cases surely has a large machine, seen without making that machine.

A case is a list of machines of conditions. A state of the machine of all cases is made of states of all of these
machines, and there can be very many such bundles. Two of them surely differ if some row of few digits is in from one
of them and not from the other. In a bundle each case has a tuple of states, or None if nothing is in from one of them.
"""

from loopsize.machines import settled

MANY_BITS = 12
MOST_LEVELS = 32
MOST_AT_ONCE = 400
LABORIOUS = 10 ** 6


def is_laborious(cases):
    """Whether there may be so many bundles of states that a look ahead is worth while."""
    told = 1
    for case in cases:
        for machine in case:
            told = told * len(machine[0])
    return told > LABORIOUS and [] not in cases


def masks_of(machine):
    """For each state an integer: its bits tell which of the rows of few digits are in from it."""
    rows, ends = machine
    told = [1 if end else 0 for end in ends]
    width = 1
    while width * len(rows[0]) <= 1 << MANY_BITS:
        told = [side_by_side([told[then] for then in row], width) for row in rows]
        width = width * len(rows[0])
    return told


def side_by_side(parts, width):
    told = 0
    for part in parts:
        told = told << width | part
    return told


def surely_above(cases, most):
    """Whether more states than these are found that differ; if not, there may be so many all the same."""
    masks = [[masks_of(machine) for machine in case] for case in cases]
    empty = [[settled(machine[0], machine[1], (True, False)) for machine in case] for case in cases]
    wave = [tuple([(0,) * len(case) for case in cases])]
    seen = {wave[0]: True}
    found = {}
    for _ in range(MOST_LEVELS):
        fresh = {}
        unlike = {}
        for bundle in bundles_behind(wave, cases, empty):
            if bundle not in seen:
                mask = mask_of(bundle, masks)
                fresh[bundle] = True
                if mask not in found:
                    found[mask] = True
                    unlike[bundle] = True
        if len(found) > most:
            return True
        wave = spread(list(unlike) + spread(list(fresh)))
        for bundle in wave:
            seen[bundle] = True
    return False


def mask_of(bundle, masks):
    """The bits for the rows that are in by one of the cases."""
    told = 0
    for states, own in zip(bundle, masks):
        if states is not None:
            part = -1
            for state, mask in zip(states, own):
                part = part & mask[state]
            told = told | part
    return told


def bundles_behind(wave, cases, empty):
    """The bundles behind those of a wave, letter by letter."""
    told = []
    for bundle in wave:
        columns = [states_behind(states, case, own) for states, case, own in zip(bundle, cases, empty)]
        told.extend(list(zip(*columns)))
    return told


def states_behind(states, case, empty):
    """For each letter the states of a case behind it, None if nothing is in from one of them."""
    many = len(case[0][0][0])
    if states is None:
        return [None] * many
    lines = [machine[0][state] for machine, state in zip(case, states)]
    told = []
    for letter in range(many):
        then = tuple([line[letter] for line in lines])
        is_empty = any([own[state] for own, state in zip(empty, then)])
        told.append(None if is_empty else then)
    return told


def spread(bundles):
    """Not more bundles than are gone through at once, from all parts of the given ones."""
    many = min(len(bundles), MOST_AT_ONCE)
    return [bundles[at * len(bundles) // many] for at in range(many)]
