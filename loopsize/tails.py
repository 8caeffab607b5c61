"""How a machine of one number goes on: what two sets have in common if they differ in finitely many numbers.

States are alike if the sets of numbers that are in from them differ in finitely many numbers alone. Classes of
such states are called germs: they are led to one another by digits, as states are, and a germ has a period.
"""

from math import lcm

from loopsize.machines import refined


def germs_of(machine):
    """For each state the number of its germ, and for each germ the two germs behind it."""
    rows, ends = machine
    states = list(range(len(rows)))
    # Numbers from 1 on end in the digit 1, so the states alike in all of them are told by what follows that digit.
    marks = refined(rows, [1 if ends[row[1]] else 0 for row in rows], states)
    many = max(marks) + 1
    while True:
        table = {}
        marks = [table.setdefault((marks[row[0]], marks[row[1]]), len(table)) for row in rows]
        if len(table) == many:
            break
        many = len(table)
    behind = [None] * many
    for state in states:
        behind[marks[state]] = (marks[rows[state][0]], marks[rows[state][1]])
    return marks, behind


def zero_cycle(behind, germ):
    """The germs that come again and again as zeros are read, from the first one that does."""
    path = []
    place = {}
    while germ not in place:
        place[germ] = len(path)
        path.append(germ)
        germ = behind[germ][0]
    return path[place[germ]:]


def periods_of(behind):
    """The least period of each germ.

    If it is odd, zeros lead back to the germ. Otherwise it is twice the least common multiple of the two behind it.
    """
    told = [0] * len(behind)
    pending = list(range(len(behind)))
    for germ in range(len(behind)):
        if told[germ] == 0 and germ in zero_cycle(behind, germ):
            met = germs_behind(behind, germ)
            period = odd_period(behind, met)
            for other in met:
                told[other] = period
    while pending:
        for germ in pending:
            low, high = behind[germ]
            if told[germ] == 0 and told[low] > 0 and told[high] > 0:
                told[germ] = 2 * lcm(told[low], told[high])
        pending = [germ for germ in pending if told[germ] == 0]
    return told


def germs_behind(behind, germ):
    """The germs to which digits lead, the germ itself first."""
    met = [germ]
    is_met = {germ: True}
    at = 0
    while at < len(met):
        for then in behind[met[at]]:
            if then not in is_met:
                is_met[then] = True
                met.append(then)
        at += 1
    return met


def odd_period(behind, germs):
    """The period of germs that lead to one another: if some zeros lead each of them back to itself, a digit 1 and
    zeros, as many together, move it by 1."""
    many = 1
    for germ in germs:
        many = lcm(many, len(zero_cycle(behind, germ)))
    germ = germs[0]
    period = 0
    while period == 0 or germ != germs[0]:
        germ = behind[germ][1]
        for _ in range(many - 1):
            germ = behind[germ][0]
        period += 1
    return period


def lasting_at_zero(machine, marks, behind, periods):
    """For each germ whether the multiples of its period, if they are great, are in."""
    rows, ends = machine
    of_germ = [None] * len(behind)
    for state in range(len(rows)):
        of_germ[marks[state]] = state
    told = []
    for germ in range(len(behind)):
        state = of_germ[zero_cycle(behind, germ)[0]]
        number = periods[marks[state]]
        # From the power of 2 with as many zeros as there are states, all is as it lasts.
        for _ in rows:
            state = rows[state][0]
        while number > 0:
            state = rows[state][number & 1]
            number = number >> 1
        told.append(ends[state])
    return told


def lasting_machine(machine):
    """The least period, and the machine, with the same states, of the numbers as they are in from some start on."""
    marks, behind = germs_of(machine)
    periods = periods_of(behind)
    lasting = lasting_at_zero(machine, marks, behind, periods)
    return periods[marks[0]], (machine[0], tuple([lasting[mark] for mark in marks]))


def is_in(machine, number):
    rows, ends = machine
    state = 0
    while number > 0:
        state = rows[state][number & 1]
        number = number >> 1
    return ends[state]
