"""Machines that read the digits of rows, the lowest ones first.

A machine is a pair (rows, ends): for each state the states to which its letters lead, and whether
the rows that lead to it are in. State 0 is the first one. Zeros behind the highest digits change
nothing. All states can be reached. Nothing here minds how many states a machine has.
"""


def minimal(rows, ends):
    """The machine with the fewest states for the same rows, its states in the order of [5]."""
    return in_order(rows, ends, classes_of(rows, ends))


def classes_of(rows, ends):
    """For each state the number of its class: states are of one class if the same rows are in from them."""
    early = ahead_of_cycles(rows)
    is_early = [False] * len(rows)
    for state in early:
        is_early[state] = True
    core = [state for state in range(len(rows)) if not is_early[state]]
    marks = refined(rows, [1 if end else 0 for end in ends], core)
    table = {}
    for state in core:
        key = (ends[state], *[marks[then] for then in rows[state]])
        table[key] = marks[state]
    # No cycle passes through the early states, so one look at what stands behind each of them will do.
    for state in reversed(early):
        key = (ends[state], *[marks[then] for then in rows[state]])
        marks[state] = table.setdefault(key, len(table))
    return marks


def ahead_of_cycles(rows):
    """The states to which no cycle leads, each one ahead of those to which it leads."""
    many = [0] * len(rows)
    for row in rows:
        for then in row:
            many[then] += 1
    early = [0] if many[0] == 0 else []
    at = 0
    while at < len(early):
        for then in rows[early[at]]:
            many[then] -= 1
            if many[then] == 0:
                early.append(then)
        at += 1
    return early


def refined(rows, marks, core):
    """The coarsest marks below the given ones that tell of a state those of the states behind it.

    Only states of the core are marked; they lead into the core alone.
    """
    many = 0
    while True:
        table = {}
        told = list(marks)
        for state in core:
            key = (marks[state], *[marks[then] for then in rows[state]])
            told[state] = table.setdefault(key, len(table))
        marks = told
        if len(table) == many:
            return marks
        many = len(table)


def in_order(rows, ends, marks):
    """The machine of the classes of states, numbered as they are met from the first state on."""
    place = {marks[0]: 0}
    met = [0]
    told = []
    at = 0
    while at < len(met):
        row = []
        for then in rows[met[at]]:
            mark = marks[then]
            if mark not in place:
                place[mark] = len(met)
                met.append(then)
            row.append(place[mark])
        told.append(tuple(row))
        at += 1
    return tuple(told), tuple([ends[state] for state in met])


def arity_of(machine):
    return len(machine[0][0]).bit_length() - 1


def leads_to(rows, letters, marked):
    """For each state whether some of the letters, none or more of them, lead from it to a marked one."""
    behind = [[] for _ in rows]
    for state, row in enumerate(rows):
        for letter in letters:
            behind[row[letter]].append(state)
    told = list(marked)
    found = [state for state in range(len(told)) if told[state]]
    while found:
        last = found.pop()
        for state in behind[last]:
            if not told[state]:
                told[state] = True
                found.append(state)
    return told


def settled(rows, ends, sure):
    """For each state sure[its end] if nothing that is read leads away from it, otherwise 0."""
    told = []
    for state in range(len(rows)):
        stays = all([then == state for then in rows[state]])
        told.append(sure[ends[state]] if stays else 0)
    return told


def joined(one, other, keep):
    """The machine of the rows for which keep[in one][in other] is True."""
    verdicts = (-1, -2)
    sure_one = settled(one[0], one[1], [verdicts[keep[e][0]] if keep[e][0] == keep[e][1] else 0 for e in (0, 1)])
    sure_other = settled(other[0], other[1], [verdicts[keep[0][e]] if keep[0][e] == keep[1][e] else 0 for e in (0, 1)])
    wide = len(other[0])
    first = sure_one[0] or sure_other[0]
    place = {first: 0}
    codes = [first]
    rows = []
    while len(rows) < len(codes):
        code = codes[len(rows)]
        if code < 0:
            rows.append((len(rows),) * len(one[0][0]))
            continue
        row = []
        for s, t in zip(one[0][code // wide], other[0][code % wide]):
            then = sure_one[s] or sure_other[t] or s * wide + t
            if then not in place:
                place[then] = len(codes)
                codes.append(then)
            row.append(place[then])
        rows.append(tuple(row))
    ends = [keep[one[1][c // wide]][other[1][c % wide]] if c >= 0 else c == -2 for c in codes]
    return minimal(rows, ends)


def in_both(one, other):
    return joined(one, other, ((False, False), (False, True)))


def in_either(one, other):
    return joined(one, other, ((False, True), (True, True)))


def in_first_alone(one, other):
    return joined(one, other, ((False, False), (True, False)))


def turned(machine):
    """The machine of all other rows: it has the same states."""
    return machine[0], tuple([not end for end in machine[1]])


def empty_machine(arity):
    return ((0,) * (1 << arity),), (False,)


def full_machine(arity):
    return ((0,) * (1 << arity),), (True,)


def with_digit(letter, place, digit):
    """The letter with one more digit at a place."""
    low = letter & ((1 << place) - 1)
    return low | digit << place | (letter >> place) << (place + 1)


def without_digit(letter, place):
    return letter & ((1 << place) - 1) | (letter >> (place + 1)) << place


def widened_machine(machine, place):
    letters = list(range(2 * len(machine[0][0])))
    rows = [tuple([row[without_digit(letter, place)] for letter in letters]) for row in machine[0]]
    return in_order(rows, machine[1], list(range(len(rows))))


def reordered_machine(machine, places):
    """The machine of the rows whose number at each t is the one at places[t] of a row that is in."""
    sources = []
    for letter in range(len(machine[0][0])):
        sources.append(sum([(letter >> t & 1) << place for t, place in enumerate(places)]))
    rows = [tuple([row[source] for source in sources]) for row in machine[0]]
    return in_order(rows, machine[1], list(range(len(rows))))
