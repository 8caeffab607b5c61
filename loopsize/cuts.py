"""Machines with one number less: left out, or put in."""

from loopsize.machines import leads_to, minimal, settled, with_digit


def left_machine(machine, place):
    """The rows with the number at the place left out: its digits are guessed, so a state is a bundle of states.

    The number left out may have more digits than the others, so a bundle is an end if zeros of the others and
    some digits of this number lead on to an end.
    """
    letters = [(with_digit(k, place, 0), with_digit(k, place, 1)) for k in range(len(machine[0][0]) // 2)]
    is_end = leads_to(machine[0], letters[0], machine[1])
    sure = settled(machine[0], machine[1], (-1, 1))
    place_of = {(0,): 0}
    bundles = [(0,)]
    rows = []
    while len(rows) < len(bundles):
        row = []
        lines = [machine[0][state] for state in bundles[len(rows)]]
        for zero, one in letters:
            then = bundle_of([line[zero] for line in lines] + [line[one] for line in lines], sure)
            if then not in place_of:
                place_of[then] = len(bundles)
                bundles.append(then)
            row.append(place_of[then])
        rows.append(tuple(row))
    return minimal(rows, [any([is_end[state] for state in bundle]) for bundle in bundles])


def bundle_of(states, sure):
    """The states, each once, without those from which nothing is in; one alone if all is in from it."""
    told = sorted({state for state in states if sure[state] >= 0})
    for state in told:
        if sure[state] == 1:
            return (state,)
    return tuple(told)


def put_machine(machine, place, number):
    """The rows that are in with the number put in at the place. A code is a state and how many digits were read."""
    rows = machine[0]
    last = number.bit_length()
    many = len(rows)
    letters = []
    for digit in (0, 1):
        letters.append([with_digit(k, place, digit) for k in range(len(rows[0]) // 2)])
    place_of = {0: 0}
    codes = [0]
    told = []
    while len(told) < len(codes):
        level, state = divmod(codes[len(told)], many)
        then_level = min(level + 1, last)
        row = []
        for letter in letters[number >> level & 1]:
            code = then_level * many + rows[state][letter]
            if code not in place_of:
                place_of[code] = len(codes)
                codes.append(code)
            row.append(place_of[code])
        told.append(tuple(row))
    return minimal(told, put_ends(machine, place, number, codes))


def put_ends(machine, place, number, codes):
    """Whether the other numbers may end here: zeros of theirs are read with the digits of the number still to come."""
    rows, ends = machine
    many = len(rows)
    one = with_digit(0, place, 1)
    last = number.bit_length()
    levels = [list(ends)]
    for level in reversed(range(last)):
        letter = one if number >> level & 1 else 0
        levels.append([levels[-1][row[letter]] for row in rows])
    return [levels[last - code // many][code % many] for code in codes]
