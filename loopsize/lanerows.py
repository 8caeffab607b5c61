"""Rows (n, i, j) of a machine whose differences j - i have the same greatest common divisor as those of all rows.

For each state take the shortest digits that lead to it, and some digits that lead on from it to an end. Two rows that
go apart in a state differ by a multiple of what such rows differ by, and so on with the rows behind it: so those that
go the shortest way to a state, take one letter there and then such digits to an end are enough.
"""

from loopsize.machines import leads_to

ZEROS = (0, 0, 0)


def rows_of_lanes(machine):
    """Such rows, some of them more than once; none if the machine has none."""
    rows, ends = machine
    letters = list(range(len(rows[0])))
    alive = leads_to(rows, letters, ends)
    if not alive[0]:
        return []
    behind = digits_behind(rows, ends)
    ahead = digits_ahead(rows, alive)
    told = []
    for state in ahead:
        digits, power = ahead[state]
        if ends[state]:
            told.append(digits)
        for letter, then in enumerate(rows[state]):
            if alive[then]:
                told.append(put_together(digits, power, put_together(digits_of(letter), 2, behind[then])))
    return told


def digits_of(letter):
    return letter & 1, letter >> 1 & 1, letter >> 2


def put_together(low, power, high):
    return low[0] + power * high[0], low[1] + power * high[1], low[2] + power * high[2]


def digits_ahead(rows, alive):
    """For each state that leads to an end the shortest digits that lead to it, and the power of 2 behind them."""
    told = {0: (ZEROS, 1)}
    met = [0]
    at = 0
    while at < len(met):
        digits, power = told[met[at]]
        for letter, then in enumerate(rows[met[at]]):
            if alive[then] and then not in told:
                told[then] = (put_together(digits, power, digits_of(letter)), 2 * power)
                met.append(then)
        at += 1
    return told


def digits_behind(rows, ends):
    """For each state that leads to an end the digits of a shortest way there."""
    sources = [[] for _ in rows]
    for state, row in enumerate(rows):
        for letter, then in enumerate(row):
            sources[then].append((state, letter))
    told = {state: ZEROS for state in range(len(rows)) if ends[state]}
    met = list(told)
    at = 0
    while at < len(met):
        digits = told[met[at]]
        for state, letter in sources[met[at]]:
            if state not in told:
                told[state] = put_together(digits_of(letter), 2, digits)
                met.append(state)
        at += 1
    return told
