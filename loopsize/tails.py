"""How a machine of one number goes on: what two sets have in common if they differ in finitely many numbers.

States are alike if the sets of numbers that are in from them differ in finitely many numbers alone. Classes of
such states are called germs: they are led to one another by digits, as states are, and a germ has a period.
"""

from math import lcm

from loopsize.machines import refined


def germs_of(machine):
    """For each state the number of its germ, and for each germ the two germs behind it."""
    rows, ends = machine
    # Numbers from 1 on end in the digit 1, so the states alike in all of them are told by what follows that digit.
    marks = refined(rows, [1 if ends[row[1]] else 0 for row in rows], len(rows))
    low = [row[0] for row in rows]
    high = [row[1] for row in rows]
    many = 0
    while True:
        table = {}
        pairs = list(zip([marks[then] for then in low], [marks[then] for then in high]))
        marks = [table.setdefault(pair, len(table)) for pair in pairs]
        if len(table) == many:
            break
        many = len(table)
    behind = [None] * many
    for state, row in enumerate(rows):
        behind[marks[state]] = (marks[row[0]], marks[row[1]])
    return marks, behind


def on_cycles(follow):
    """For each number whether it comes again if each number is followed by the one at its place."""
    walk = [-1] * len(follow)
    told = [False] * len(follow)
    for start in range(len(follow)):
        at = start
        while walk[at] < 0:
            walk[at] = start
            at = follow[at]
        while walk[at] == start and not told[at]:
            told[at] = True
            at = follow[at]
    return told


def far_behind(follow):
    """For each number the one far behind it, at least as many steps as there are numbers."""
    steps = 1
    while steps < len(follow):
        follow = [follow[then] for then in follow]
        steps = 2 * steps
    return follow


def periods_of(behind):
    """The least period of each germ.

    If it is odd, zeros lead back to the germ. Otherwise it is twice the least common multiple of the two behind it.
    """
    told = [0] * len(behind)
    comes_again = on_cycles([pair[0] for pair in behind])
    for germ in range(len(behind)):
        if told[germ] == 0 and comes_again[germ]:
            met = germs_behind(behind, germ)
            period = odd_period(behind, met)
            for other in met:
                told[other] = period
    pending = [germ for germ in range(len(behind)) if told[germ] == 0]
    while pending:
        for germ in reversed(pending):
            low, high = behind[germ]
            if told[low] > 0 and told[high] > 0:
                told[germ] = 2 * lcm(told[low], told[high])
        pending = [germ for germ in pending if told[germ] == 0]
    return told


def germs_behind(behind, germ):
    """The germs to which digits lead, the germ itself first."""
    met = [germ]
    is_met = {germ: True}
    at = 0
    while at < len(met):
        for then in behind[met[at]]:
            if then not in is_met:
                is_met[then] = True
                met.append(then)
        at += 1
    return met


def odd_period(behind, germs):
    """The period of germs that lead to one another: some zeros lead each of them back to itself, so a digit 1 and
    zeros, as many together, move it by 1. All but one of as many zeros undo a single one."""
    ahead = {behind[germ][0]: germ for germ in germs}
    germ = ahead[behind[germs[0]][1]]
    period = 1
    while germ != germs[0]:
        germ = ahead[behind[germ][1]]
        period += 1
    return period


def lasting_at_zero(machine, marks, behind, periods):
    """For each germ whether the multiples of its period, if they are great, are in.

    From the power of 2 with as many zeros as there are states, all is as it lasts.
    """
    rows, ends = machine
    far = far_behind([row[0] for row in rows])
    told = [None] * len(behind)
    for state, germ in enumerate(marks):
        if told[germ] is None:
            at = far[state]
            number = periods[marks[at]]
            while number > 0:
                at = rows[at][number & 1]
                number = number >> 1
            told[germ] = ends[at]
    return told


def lasting_machine(machine):
    """The least period, and the machine, with the same states, of the numbers as they are in from some start on."""
    marks, behind = germs_of(machine)
    periods = periods_of(behind)
    lasting = lasting_at_zero(machine, marks, behind, periods)
    return periods[marks[0]], (machine[0], tuple([lasting[mark] for mark in marks]))


def is_in(machine, number):
    rows, ends = machine
    state = 0
    while number > 0:
        state = rows[state][number & 1]
        number = number >> 1
    return ends[state]
