"""Machines that read the digits of rows, the lowest ones first.

A machine is a pair (rows, ends): for each state the states to which its letters lead, and whether
the rows that lead to it are in. State 0 is the first one. Zeros behind the highest digits change
nothing. All states can be reached. Nothing here minds how many states a machine has.
"""

SURELY_OUT = -(1 << 40)
SURELY_IN = -(1 << 50)
BETWEEN = -(1 << 45)
BOTH = ((False, False), (False, True))
EITHER = ((False, True), (True, True))
FIRST_ALONE = ((False, False), (True, False))
UNLIKE = ((False, True), (True, False))


def minimal(rows, ends):
    """The machine with the fewest states for the same rows, its states in the order of [5]."""
    return in_order(rows, ends, classes_of(rows, ends, len(rows)))


def minimal_up_to(rows, ends, most):
    """The same, or None if it has more states than these."""
    marks = classes_of(rows, ends, most)
    return None if marks is None else in_order(rows, ends, marks)


def classes_of(rows, ends, most):
    """For each state the number of its class: states are of one class if the same rows are in from them.

    None if there are more classes than these.
    """
    early = ahead_of_cycles(rows)
    if not early:
        return refined(rows, ends, most)
    kept, place = without_states(rows, early)
    found = refined([[place[then] for then in rows[state]] for state in kept], [ends[state] for state in kept], most)
    if found is None:
        return None
    marks = [0] * len(rows)
    for state, mark in zip(kept, found):
        marks[state] = mark
    table = {}
    for state in kept:
        key = (ends[state], *[marks[then] for then in rows[state]])
        table[key] = marks[state]
    # No cycle passes through the early states, so one look at what stands behind each of them will do.
    for state in reversed(early):
        key = (ends[state], *[marks[then] for then in rows[state]])
        marks[state] = table.setdefault(key, -1 - state)
    return marks if len(table) <= most else None


def without_states(rows, gone):
    """The states that are not gone, and for each of them its place among these."""
    is_gone = [False] * len(rows)
    for state in gone:
        is_gone[state] = True
    kept = [state for state in range(len(rows)) if not is_gone[state]]
    place = [0] * len(rows)
    for at, state in enumerate(kept):
        place[state] = at
    return kept, place


def ahead_of_cycles(rows):
    """The states to which no cycle leads, each one ahead of those to which it leads."""
    if any([0 in row for row in rows]):
        return []
    many = [0] * len(rows)
    for row in rows:
        for then in row:
            many[then] += 1
    early = [0]
    at = 0
    while at < len(early):
        for then in rows[early[at]]:
            many[then] -= 1
            if many[then] == 0:
                early.append(then)
        at += 1
    return early


def refined(rows, marks, most):
    """The coarsest marks below the given ones that tell of a state those of the states behind it.

    None if there are more of them than these.
    """
    columns = list(zip(*rows))
    many = 0
    while True:
        behind = [[marks[then] for then in column] for column in columns]
        keys = list(zip(marks, *behind))
        table = dict(zip(keys, range(len(keys))))
        if len(table) == many:
            return marks
        if len(table) > most:
            return None
        marks = [table[key] for key in keys]
        many = len(table)


def in_order(rows, ends, marks):
    """The machine of the classes of states, numbered as they are met from the first state on."""
    place = {marks[0]: 0}
    met = [0]
    told = []
    at = 0
    while at < len(met):
        row = []
        for then in rows[met[at]]:
            mark = marks[then]
            if mark not in place:
                place[mark] = len(met)
                met.append(then)
            row.append(place[mark])
        told.append(tuple(row))
        at += 1
    return tuple(told), tuple([ends[state] for state in met])


def arity_of(machine):
    return len(machine[0][0]).bit_length() - 1


def leads_to(rows, letters, marked):
    """For each state whether some of the letters, none or more of them, lead from it to a marked one."""
    behind = [[] for _ in rows]
    for state, row in enumerate(rows):
        for letter in letters:
            behind[row[letter]].append(state)
    told = list(marked)
    found = [state for state in range(len(told)) if told[state]]
    while found:
        last = found.pop()
        for state in behind[last]:
            if not told[state]:
                told[state] = True
                found.append(state)
    return told


def settled(rows, ends, sure):
    """For each state sure[its end] if nothing that is read leads away from it, otherwise 0."""
    told = [0] * len(rows)
    for state, row in enumerate(rows):
        if row[0] == state and row.count(state) == len(row):
            told[state] = sure[ends[state]]
    return told


def joined(one, other, keep):
    """The machine of the rows for which keep[in one][in other] is True."""
    rows, ends = joined_freely(one, other, keep)
    return minimal(rows, ends)


def joined_freely(one, other, keep):
    """The same machine, but not with the fewest states.

    The code of a pair of states is the sum of a number for each of the two. Where one of the states makes the
    verdict certain, its number is so far below 0 that the sum tells it.
    """
    wide = len(other[0])
    rows_one, first_one = numbered(one, wide, [verdict_of(keep[e]) for e in (0, 1)])
    rows_other, first_other = numbered(other, 1, [verdict_of((keep[0][e], keep[1][e])) for e in (0, 1)])
    first = first_one + first_other
    if first < 0:
        first = SURELY_IN if first < BETWEEN else SURELY_OUT
    codes = [first]
    place = {first: 0}
    rows = []
    while len(rows) < len(codes):
        code = codes[len(rows)]
        if code < 0:
            rows.append((len(rows),) * len(one[0][0]))
            continue
        row = []
        for x, y in zip(rows_one[code // wide], rows_other[code % wide]):
            then = x + y
            if then < 0:
                then = SURELY_IN if then < BETWEEN else SURELY_OUT
            if then not in place:
                place[then] = len(codes)
                codes.append(then)
            row.append(place[then])
        rows.append(row)
    ends = [keep[one[1][c // wide]][other[1][c % wide]] if c >= 0 else c == SURELY_IN for c in codes]
    return rows, ends


def verdict_of(pair):
    """What is sure if the verdict is one of these two; 0 if nothing is."""
    if pair[0] != pair[1]:
        return 0
    return SURELY_IN if pair[0] else SURELY_OUT


def numbered(machine, factor, sure):
    """The rows of a machine, and its first state, with numbers for the states: multiples of the factor, or what
    is sure from them on."""
    rows, ends = machine
    verdicts = settled(rows, ends, sure)
    numbers = [verdict or state * factor for state, verdict in enumerate(verdicts)]
    return [[numbers[then] for then in row] for row in rows], numbers[0]


def in_first_alone(one, other):
    """The rows that are in one machine and not in the other one; often this changes nothing."""
    return joined(one, other, FIRST_ALONE) if True in joined_freely(one, other, BOTH)[1] else one


def turned(machine):
    """The machine of all other rows: it has the same states."""
    return machine[0], tuple([not end for end in machine[1]])


def empty_machine(arity):
    return ((0,) * (1 << arity),), (False,)


def full_machine(arity):
    return ((0,) * (1 << arity),), (True,)


def with_digit(letter, place, digit):
    """The letter with one more digit at a place."""
    low = letter & ((1 << place) - 1)
    return low | digit << place | (letter >> place) << (place + 1)


def without_digit(letter, place):
    return letter & ((1 << place) - 1) | (letter >> (place + 1)) << place


def widened_machine(machine, place):
    letters = list(range(2 * len(machine[0][0])))
    rows = [tuple([row[without_digit(letter, place)] for letter in letters]) for row in machine[0]]
    return in_order(rows, machine[1], list(range(len(rows))))


def reordered_machine(machine, places):
    """The machine of the rows whose number at each t is the one at places[t] of a row that is in."""
    sources = []
    for letter in range(len(machine[0][0])):
        sources.append(sum([(letter >> t & 1) << place for t, place in enumerate(places)]))
    rows = [tuple([row[source] for source in sources]) for row in machine[0]]
    return in_order(rows, machine[1], list(range(len(rows))))
