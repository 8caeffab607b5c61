"""Systems of functions that tell one another digit by digit, and the one least system for a function.

A system is a tuple (start, steps, firsts) of functions f0, f1, .. that have integers as values. firsts are their
values at 0. steps[digit][i] is a pair (many, parts): many times fi at 2 * n + digit is the sum of x times fj at n
for all (j, x) in parts. The function that is told is the sum of start[i] times fi.

What stands here is run by the operators of counts: so it changes only lists that the same function has made.
"""

from math import gcd, lcm


def column_behind(step, column):
    """The values of all functions at 2 * n + digit, from those at n."""
    return [sum([x * column[j] for j, x in parts]) // many for many, parts in step]


def column_at(steps, firsts, number):
    """The values of all functions at a number."""
    column = firsts
    for level in reversed(range(number.bit_length())):
        column = column_behind(steps[number >> level & 1], column)
    return column


def pivot_of(row, width):
    """The place of the least entry among the first ones, but not of a 0; None if all are 0."""
    best = None
    for place in range(width):
        if row[place] != 0 and (best is None or abs(row[place]) < abs(row[best])):
            best = place
            if abs(row[place]) == 1:
                break
    return best


def divided(row):
    """The row without the greatest common divisor of its entries."""
    common = 0
    for entry in row:
        common = gcd(common, entry)
        if common == 1:
            return row
    return [entry // common for entry in row] if common > 0 else row


def reduced(basis, row):
    """A multiple of the row and multiples of rows of the basis, added up to 0 at the pivot of each of these.

    The row may be longer than those of the basis: they are as if they had zeros there.
    """
    for pivot, other in basis:
        if row[pivot] != 0:
            common = gcd(row[pivot], other[pivot])
            x = other[pivot] // common
            y = row[pivot] // common
            front = [x * a - y * b for a, b in zip(row, other)]
            row = divided(front + [x * a for a in row[len(other):]])
    return row


def spanning_columns(steps, firsts):
    """Columns at some numbers that are independent, and of which those at all numbers are sums of multiples."""
    basis = []
    told = []
    columns = [firsts]
    at = 0
    while at < len(columns):
        row = reduced(basis, columns[at])
        pivot = pivot_of(row, len(row))
        if pivot is not None:
            basis.append((pivot, row))
            told.append(columns[at])
            columns.append(column_behind(steps[0], columns[at]))
            columns.append(column_behind(steps[1], columns[at]))
        at += 1
    return told


def section_behind(step, vector, scale):
    """The section at 2 * n + digit of the function that is the sum of vector[i] * fi / scale: (vector, scale)."""
    common = 1
    for i, factor in enumerate(vector):
        if factor != 0:
            common = lcm(common, step[i][0])
    told = [0 for _ in vector]
    for i, factor in enumerate(vector):
        if factor != 0:
            many, parts = step[i]
            for j, x in parts:
                told[j] = told[j] + factor * (common // many) * x
    divisor = scale * common
    for factor in told:
        divisor = gcd(divisor, factor)
        if divisor == 1:
            break
    return [factor // divisor for factor in told], scale * common // divisor


def sampled(columns, vector, scale):
    """The values of a function at the numbers of the columns."""
    parts = [(i, factor) for i, factor in enumerate(vector) if factor != 0]
    return [sum([factor * column[i] for i, factor in parts]) // scale for column in columns]


def kept_wave(basis, wave, columns):
    """Goes through sections of one k, in order: the sections that are kept, their rows of a basis, other sections.

    A section is (name, vector, scale). Behind the values that a row has there is a factor for each section kept so
    far, and one for the section at hand: these sections, so often, make up the row. A section that is not kept is
    told by such factors, for a row that is 0 in front.
    """
    kept = []
    rows = []
    known = {}
    for name, vector, scale in wave:
        values = sampled(columns, vector, scale) if columns else vector
        row = reduced(basis + rows, [*values, *[0 for _ in basis + rows], 1])
        pivot = pivot_of(row, len(values))
        if pivot is None:
            known[name] = row[len(values):]
        else:
            rows.append((pivot, row))
            kept.append((name, vector, scale))
    return kept, rows, known


def next_wave(kept, steps):
    """The sections behind the kept ones of one k, in order."""
    told = []
    for digit in (0, 1):
        for (k, r), vector, scale in kept:
            behind, behind_scale = section_behind(steps[digit], vector, scale)
            told.append(((k + 1, r + (digit << k)), behind, behind_scale))
    return told


def kept_sections(start, steps, columns):
    """All kept sections in order, and the rows that tell the sections behind them that are not kept."""
    kept = []
    basis = []
    known = {}
    wave = [((0, 0), start, 1)]
    while wave:
        now, rows, others = kept_wave(basis, wave, columns)
        kept = kept + now
        basis = basis + rows
        for name in others:
            known[name] = others[name]
        wave = next_wave(now, steps)
    return kept, known


def rule_of(parts, many_kept):
    """The rule for a section that is not kept, out of the factors that make up 0 with its own, the last one."""
    factors = [-factor if parts[-1] > 0 else factor for factor in parts[:-1]]
    return abs(parts[-1]), (*factors, *[0 for _ in range(many_kept - len(factors))])


def rules_of(names, known):
    """For each kept section its two rules."""
    unit = {}
    for place, name in enumerate(names):
        unit[name] = (1, tuple([1 if other == place else 0 for other in range(len(names))]))
    told = []
    for k, r in names:
        pair = []
        for digit in (0, 1):
            name = (k + 1, r + (digit << k))
            pair.append(unit[name] if name in unit else rule_of(known[name], len(names)))
        told.append(tuple(pair))
    return tuple(told)


def least_system(system, are_independent):
    """(sections, firsts, rules) of the function that a system tells, as [14] has them.

    If it is known that the functions of the system are independent, no values of them are needed to tell sections
    apart; the many of all steps are 1 then.
    """
    start, steps, firsts = system
    columns = None if are_independent else spanning_columns(steps, firsts)
    if columns == []:
        return (), (), ()
    kept, known = kept_sections(start, steps, columns)
    names = tuple([section[0] for section in kept])
    told = [sampled([firsts], section[1], section[2])[0] for section in kept]
    return names, tuple(told), rules_of(names, known)
