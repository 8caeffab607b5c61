"""Machines with one number less: left out, or put in."""

from loopsize.machines import leads_to, minimal, settled, with_digit

MANY_STATES = 200


def left_machine(machine, place):
    """The rows with the number at the place left out."""
    if len(machine[0]) > MANY_STATES:
        # States that are alike would make very many bundles.
        machine = minimal(machine[0], machine[1])
    rows, ends = left_freely(machine, place)
    return minimal(rows, ends)


def left_freely(machine, place):
    """The same machine, but not with the fewest states.

    The digits of the number that is left out are guessed, so a state is a bundle of states.

    The number left out may have more digits than the others, so a bundle is an end if zeros of the others and
    some digits of this number lead on to an end. A bundle is kept as the integer with the bits of its states.
    """
    rows, ends = machine
    letters = [(with_digit(k, place, 0), with_digit(k, place, 1)) for k in range(len(rows[0]) // 2)]
    bits, full = bits_of_states(rows, ends)
    place_of = {bits[0]: 0}
    bundles = [bits[0]]
    told = []
    while len(told) < len(bundles):
        lines = [rows[state] for state in states_in(bundles[len(told)])]
        row = []
        for zero, one in letters:
            then = 0
            for line in lines:
                then = then | bits[line[zero]] | bits[line[one]]
            if then & full:
                then = full & -full
            if then not in place_of:
                place_of[then] = len(bundles)
                bundles.append(then)
            row.append(place_of[then])
        told.append(row)
    is_end = leads_to(rows, letters[0], ends)
    marked = sum([1 << state for state in range(len(rows)) if is_end[state]])
    return told, [bundle & marked != 0 for bundle in bundles]


def bits_of_states(rows, ends):
    """For each state its bit, 0 if nothing is in from it; and the bits of the states from which all is in."""
    alive = leads_to(rows, list(range(len(rows[0]))), ends)
    sure = settled(rows, ends, (0, 1))
    bits = [1 << state if alive[state] else 0 for state in range(len(rows))]
    return bits, sum([1 << state for state in range(len(rows)) if sure[state]])


def states_in(bundle):
    told = []
    while bundle:
        low = bundle & -bundle
        told.append(low.bit_length() - 1)
        bundle = bundle ^ low
    return told


def put_machine(machine, place, number):
    """The rows that are in with the number put in at the place. A code is a state and how many digits were read."""
    rows = machine[0]
    last = number.bit_length()
    many = len(rows)
    letters = []
    for digit in (0, 1):
        letters.append([with_digit(k, place, digit) for k in range(len(rows[0]) // 2)])
    place_of = {0: 0}
    codes = [0]
    told = []
    while len(told) < len(codes):
        level, state = divmod(codes[len(told)], many)
        then_level = min(level + 1, last)
        row = []
        for letter in letters[number >> level & 1]:
            code = then_level * many + rows[state][letter]
            if code not in place_of:
                place_of[code] = len(codes)
                codes.append(code)
            row.append(place_of[code])
        told.append(tuple(row))
    return minimal(told, put_ends(machine, place, number, codes))


def put_ends(machine, place, number, codes):
    """Whether the other numbers may end here: zeros of theirs are read with the digits of the number still to come."""
    rows, ends = machine
    many = len(rows)
    one = with_digit(0, place, 1)
    last = number.bit_length()
    levels = [list(ends)]
    for level in reversed(range(last)):
        letter = one if number >> level & 1 else 0
        levels.append([levels[-1][row[letter]] for row in rows])
    return [levels[last - code // many][code % many] for code in codes]
