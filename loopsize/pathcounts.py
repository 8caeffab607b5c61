"""How many rows of a set have the same first number: for each state of its machine a function of this number."""

from loopsize.machines import leads_to


def parts_of(states):
    """How often each state stands among the states: pairs (state, many)."""
    many = {}
    for state in states:
        many[state] = many.get(state, 0) + 1
    return tuple([(state, many[state]) for state in many])


def path_steps(rows):
    """For each digit of the first number and each state the states behind it, over all digits of the others."""
    told = []
    for digit in (0, 1):
        step = []
        for row in rows:
            step.append((1, parts_of([then for letter, then in enumerate(row) if letter & 1 == digit])))
        told.append(step)
    return tuple(told)


def rows_at_zero(machine):
    """For each state how many rows with the first number 0 are in from it: -1 if they are endlessly many.

    Such a row is that of zeros, or its digits end in a letter that is not 0: these are the ways through the states
    from which such an end can still come.
    """
    rows, ends = machine
    zeros = list(range(0, len(rows[0]), 2))
    last = [sum([1 for letter in zeros[1:] if ends[row[letter]]]) for row in rows]
    useful = leads_to(rows, zeros, [many > 0 for many in last])
    ways = [-1 if is_useful else 0 for is_useful in useful]
    for state in useful_in_order(rows, zeros, useful):
        ways[state] = last[state] + sum([ways[rows[state][letter]] for letter in zeros])
    told = []
    for state in range(len(rows)):
        alone = 1 if ends[state] else 0
        told.append(ways[state] + alone if ways[state] >= 0 else -1)
    return told


def useful_in_order(rows, letters, useful):
    """The useful states from which no cycle of useful states can be reached, each one behind those it leads to."""
    waiting = [0] * len(rows)
    ahead = [[] for _ in rows]
    for state, row in enumerate(rows):
        for letter in letters:
            if useful[state] and useful[row[letter]]:
                waiting[state] += 1
                ahead[row[letter]].append(state)
    told = [state for state in range(len(rows)) if useful[state] and waiting[state] == 0]
    at = 0
    while at < len(told):
        for state in ahead[told[at]]:
            waiting[state] -= 1
            if waiting[state] == 0:
                told.append(state)
        at += 1
    return told
