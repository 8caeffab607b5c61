"""Least and greatest numbers in machines, found by whole bundles of states, not number by number."""

from loopsize.machines import arity_of, leads_to


def bit(number, at):
    return number >> at & 1


def letters_with(digits, free):
    """The letters with these digits at the first places and any digits at as many free places behind them."""
    low = 0
    for place, digit in enumerate(digits):
        low = low | digit << place
    return [low | rest << len(digits) for rest in range(1 << free)]


def goals_behind(machine, arity, place):
    """For each state whether zeros up to the place, and any digits behind it, lead from it to an end."""
    return leads_to(machine[0], letters_with([0] * (place + 1), arity - place - 1), machine[1])


def letters_at(level, fixed, digit, free):
    """The letters with the digits of the fixed numbers at a level, and one more digit."""
    low = digit << len(fixed)
    for place, number in enumerate(fixed):
        low = low | (number >> level & 1) << place
    return [low] if free == 0 else [low | rest << len(fixed) + 1 for rest in range(1 << free)]


def followers(rows, states, letters):
    """The states behind some states."""
    return list({rows[state][letter]: True for state in states for letter in letters})


def fronts_of(rows, fixed, last, free):
    """For each level up to the last one the states to which the fixed numbers lead, with any digits of the others."""
    told = [[0]]
    for level in range(last):
        letters = letters_at(level, fixed, 0, free) + letters_at(level, fixed, 1, free)
        told.append(followers(rows, told[-1], letters))
    return told


def zones_of(rows, goals, fronts, fixed, low, free):
    """For each level the states of its front from which the fixed numbers and low, from their digit there on, lead to
    a goal."""
    told = [{state: True for state in fronts[-1] if goals[state]}]
    for level in reversed(range(len(fronts) - 1)):
        letters = letters_at(level, fixed, bit(low, level), free)
        behind = told[-1]
        told.append({state: True for state in fronts[level] if leads_there(rows[state], letters, behind)})
    return told[::-1]


def leads_there(row, letters, goals):
    for letter in letters:
        if row[letter] in goals:
            return True
    return False


def least_from(rows, goals, fixed, low, free):
    """The least number from low on that leads, behind the fixed ones, to a goal; None if there is none.

    A goal is a state that stays one while zeros of all these numbers are read with some digits of the free ones.
    The number has the digits of low down to some level, there 1 instead of 0, and whatever is least below: so the
    lowest such level is looked for.
    """
    last = max([number.bit_length() for number in [*fixed, low]])
    fronts = fronts_of(rows, fixed, last, free)
    zones = zones_of(rows, goals, fronts, fixed, low, free)
    if 0 in zones[0]:
        return low
    for level in range(last):
        letters = letters_at(level, fixed, 1, free)
        found = [state for state in fronts[level] if leads_there(rows[state], letters, zones[level + 1])]
        if found and bit(low, level) == 0:
            number = (low >> level | 1) << level
            return number | digits_below(rows, fronts[:level], found, (0, 1), fixed, free)
    return least_behind(rows, goals, fronts, fixed, free)


def least_behind(rows, goals, fronts, fixed, free):
    """The same of numbers with more digits than all given ones have: there are as many fronts as these have levels,
    and one more."""
    last = len(fronts) - 1
    zeros = letters_at(last, fixed, 0, free)
    ones = letters_at(last, fixed, 1, free)
    lasting = leads_to(rows, zeros + ones, [any([goals[row[letter]] for letter in ones]) for row in rows])
    front = [state for state in fronts[-1] if lasting[state]]
    fronts = fronts[:-1]
    while front:
        found = [state for state in front if any([goals[rows[state][letter]] for letter in ones])]
        if found:
            return 1 << len(fronts) | digits_below(rows, fronts, found, (0, 1), fixed, free)
        fronts.append(front)
        front = [state for state in followers(rows, front, zeros + ones) if lasting[state]]
    return None


def digits_below(rows, fronts, found, order, fixed, free):
    """The digits for the levels of the fronts that lead to the states found: from the highest one down, each time
    the first one of the order that can be had."""
    number = 0
    for level in reversed(range(len(fronts))):
        is_found = [False] * len(rows)
        for state in found:
            is_found[state] = True
        for digit in order:
            letters = letters_at(level, fixed, digit, free)
            found = [s for s in fronts[level] if any([is_found[rows[s][letter]] for letter in letters])]
            if found:
                number = number | digit << level
                break
    return number


def least_row(machine, arity, low):
    """The least row whose first number is not less than low, None if there is none."""
    numbers = []
    for place in range(arity):
        goals = goals_behind(machine, arity, place)
        start = low if place == 0 else 0
        number = least_from(machine[0], goals, numbers, start, arity - place - 1)
        if number is None:
            return None
        numbers.append(number)
    return tuple(numbers)


def least_first(machine):
    """The least first number of the rows of a machine, None without rows."""
    arity = arity_of(machine)
    return least_from(machine[0], goals_behind(machine, arity, 0), [], 0, arity - 1)


def useful_states(machine):
    """For each state of a machine of one number whether digits, the last one 1, lead from it to an end."""
    rows, ends = machine
    return leads_to(rows, (0, 1), [ends[row[1]] for row in rows])


def has_finitely_many(machine):
    """Whether a machine of one number has finitely many: no cycle may pass through useful states."""
    rows = machine[0]
    useful = useful_states(machine)
    many = [0] * len(rows)
    for state, row in enumerate(rows):
        if useful[state]:
            many[row[0]] += 1
            many[row[1]] += 1
    free = [state for state in range(len(rows)) if useful[state] and many[state] == 0]
    gone = 0
    while free:
        state = free.pop()
        gone += 1
        for then in rows[state]:
            many[then] -= 1
            if many[then] == 0 and useful[then]:
                free.append(then)
    return gone == sum([1 for state in useful if state])


def greatest_in(machine):
    """The greatest number of a machine that has finitely many, None if it has none."""
    rows, ends = machine
    useful = useful_states(machine)
    fronts = [[0] if useful[0] else []]
    while fronts[-1]:
        fronts.append([state for state in followers(rows, fronts[-1], (0, 1)) if useful[state]])
    level = len(fronts) - 2
    if level < 0:
        return 0 if ends[0] else None
    found = [state for state in fronts[level] if ends[rows[state][1]]]
    return 1 << level | digits_below(rows, fronts[:level], found, (1, 0), [], 0)
