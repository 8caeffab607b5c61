"""Systems of functions that tell one another digit by digit, and the one least system for a function.

A system is a tuple (start, steps, firsts) of functions f0, f1, .. that have integers as values. firsts are their
values at 0. steps[digit][i] is a pair (many, parts): many times fi at 2 * n + digit is the sum of x times fj at n
for all (j, x) in parts. The function that is told is the sum of start[i] times fi.

Rows are dicts without zeros: the places of entries and the entries. A basis is a list of pairs (pivot, row), the
row with an entry at the pivot and without any at the pivots ahead of it.

What stands here is run by the operators of counts: so it changes only lists and dicts that the same function has made.
"""

from math import gcd, lcm


def column_behind(step, column):
    """The values of all functions at 2 * n + digit, from those at n."""
    told = []
    for many, parts in step:
        if many == 1 and len(parts) == 1:
            j, x = parts[0]
            told.append(x * column[j])
        else:
            told.append(sum([x * column[j] for j, x in parts]) // many)
    return told


def column_at(steps, firsts, number):
    """The values of all functions at a number."""
    column = firsts
    for level in reversed(range(number.bit_length())):
        column = column_behind(steps[number >> level & 1], column)
    return column


def row_of(entries):
    """The row with the entries of a list."""
    told = {}
    for place, entry in enumerate(entries):
        if entry != 0:
            told[place] = entry
    return told


def divided(row):
    """The row without the greatest common divisor of its entries."""
    common = 0
    for place in row:
        common = gcd(common, row[place])
        if common == 1:
            return row
    return {place: row[place] // common for place in row}


def combined(x, row, y, other):
    """x times a row and y times another one, without the common divisor; neither x nor y is 0."""
    told = dict(row)
    if x != 1:
        for place in row:
            told[place] = x * row[place]
    for place in other:
        entry = told.get(place, 0) + y * other[place]
        if entry != 0:
            told[place] = entry
        else:
            del told[place]
    return divided(told)


def reduced(basis, row):
    """A multiple of the row and multiples of rows of the basis, added up to 0 at all pivots."""
    for pivot, other in basis:
        if pivot in row:
            common = gcd(row[pivot], other[pivot])
            row = combined(other[pivot] // common, row, -(row[pivot] // common), other)
    return row


def pivot_of(row, width):
    """The place of the least entry among the places below width; None if there is none."""
    best = None
    for place in row:
        if place < width and (best is None or abs(row[place]) < abs(row[best])):
            best = place
            if abs(row[place]) == 1:
                break
    return best


def images_of(steps, firsts):
    """For each function that is not 0 everywhere its entries in some rows that tell the values of all functions at
    all numbers: pairs (name of the row, entry)."""
    sample = column_at(steps, firsts, 2 * len(firsts) + 1)
    is_dense = len(row_of(sample)) * 3 > len(sample)
    rows = spanning_columns(steps, firsts) if is_dense else column_space(steps, firsts)
    if len(rows) == len(firsts):
        return own_images(len(firsts))
    told = {}
    for name, row in enumerate(rows):
        for place in row:
            told[place] = (*told.get(place, ()), (name, row[place]))
    return told


def own_images(many):
    """The same for functions that are independent: each of them has an entry of its own."""
    return {place: ((place, 1),) for place in range(many)}


def column_space(steps, firsts):
    """Rows of which those of all columns of values are sums of multiples."""
    basis = []
    columns = [firsts]
    at = 0
    while at < len(columns):
        row = reduced(basis, row_of(columns[at]))
        pivot = pivot_of(row, len(firsts))
        if pivot is not None:
            basis.append((pivot, row))
            columns.append(column_behind(steps[0], columns[at]))
            columns.append(column_behind(steps[1], columns[at]))
        at += 1
    return [row for _, row in basis]


def spanning_columns(steps, firsts):
    """The same, found by lists of entries: it is faster where few of them are 0."""
    basis = []
    told = []
    columns = [firsts]
    at = 0
    while at < len(columns):
        entries = reduced_entries(basis, columns[at])
        pivot = pivot_of(row_of(entries), len(firsts))
        if pivot is not None:
            basis.append((pivot, entries))
            told.append(row_of(columns[at]))
            columns.append(column_behind(steps[0], columns[at]))
            columns.append(column_behind(steps[1], columns[at]))
        at += 1
    return told


def reduced_entries(basis, entries):
    """A multiple of a list of entries and multiples of those of the basis, added up to 0 at the pivots of these."""
    for pivot, other in basis:
        if entries[pivot] != 0:
            common = gcd(entries[pivot], other[pivot])
            x = other[pivot] // common
            y = entries[pivot] // common
            entries = divided_entries([x * a - y * b for a, b in zip(entries, other)])
    return entries


def divided_entries(entries):
    common = 0
    for entry in entries:
        common = gcd(common, entry)
        if common == 1:
            return entries
    return [entry // common for entry in entries] if common > 0 else entries


def section_behind(step, vector, scale):
    """The section at 2 * n + digit of the function that is the sum of vector[i] * fi / scale: (vector, scale)."""
    common = 1
    for i in vector:
        common = lcm(common, step[i][0])
    told = {}
    for i in vector:
        many, parts = step[i]
        times = vector[i] * (common // many)
        for j, x in parts:
            told[j] = told.get(j, 0) + times * x
    divisor = scale * common
    for j in told:
        divisor = gcd(divisor, told[j])
    return {j: told[j] // divisor for j in told if told[j] != 0}, scale * common // divisor


def sampled(images, vector):
    """The entries of a function in the rows of a basis."""
    told = {}
    for i in vector:
        for pivot, entry in images.get(i, ()):
            told[pivot] = told.get(pivot, 0) + vector[i] * entry
    return {pivot: told[pivot] for pivot in told if told[pivot] != 0}


def kept_wave(basis, wave, images, width):
    """Goes through sections of one k, in order: the sections that are kept, their rows of a basis, other sections.

    A section is (name, vector, scale). Behind the width of a row there is a factor for each section kept so far, and
    one for the section at hand: these sections, so often, make up the row. A section that is not kept is told by such
    factors, for a row that is 0 in front.
    """
    kept = []
    rows = []
    known = {}
    for name, vector, scale in wave:
        own = {width + len(basis) + len(rows): scale}
        row = reduced(rows, reduced(basis, {**sampled(images, vector), **own}))
        pivot = pivot_of(row, width)
        if pivot is None:
            parts = divided(row)
            known[name] = {place - width: parts[place] for place in parts}
        else:
            rows.append((pivot, row))
            kept.append((name, vector, scale))
    return kept, rows, known


def next_wave(kept, steps):
    """The sections behind the kept ones of one k, in order."""
    told = []
    for digit in (0, 1):
        for (k, r), vector, scale in kept:
            behind, behind_scale = section_behind(steps[digit], vector, scale)
            told.append(((k + 1, r + (digit << k)), behind, behind_scale))
    return told


def kept_sections(start, steps, images):
    """All kept sections in order, and the factors that tell the sections behind them that are not kept."""
    kept = []
    basis = []
    known = {}
    wave = [((0, 0), start, 1)]
    while wave:
        now, rows, others = kept_wave(basis, wave, images, len(steps[0]))
        kept = kept + now
        basis = basis + rows
        for name in others:
            known[name] = others[name]
        wave = next_wave(now, steps)
    return kept, known


def rule_of(parts, many_kept):
    """The rule for a section that is not kept, out of the factors that make up 0 with its own one, the last one."""
    own = max(parts)
    sign = -1 if parts[own] > 0 else 1
    factors = [sign * parts.get(place, 0) for place in range(own)]
    return abs(parts[own]), (*factors, *[0 for _ in range(many_kept - own)])


def rules_of(names, known):
    """For each kept section its two rules."""
    unit = {}
    for place, name in enumerate(names):
        unit[name] = (1, tuple([1 if other == place else 0 for other in range(len(names))]))
    told = []
    for k, r in names:
        pair = []
        for digit in (0, 1):
            name = (k + 1, r + (digit << k))
            pair.append(unit[name] if name in unit else rule_of(known[name], len(names)))
        told.append(tuple(pair))
    return tuple(told)


def least_system(system, are_independent):
    """(sections, firsts, rules) of the function that a system tells, as [14] has them; start is a row here.

    If it is known that the functions of the system are independent, no values of them are needed to tell sections
    apart.
    """
    start, steps, firsts = system
    if are_independent:
        images = own_images(len(firsts))
    else:
        start, steps, firsts = reachable_part(start, steps, firsts)
        images = images_of(steps, firsts)
    if not sampled(images, start):
        return (), (), ()
    kept, known = kept_sections(start, steps, images)
    names = tuple([section[0] for section in kept])
    told = [sum([vector[i] * firsts[i] for i in vector]) // scale for _, vector, scale in kept]
    return names, tuple(told), rules_of(names, known)


def reachable_part(start, steps, firsts):
    """The system without the functions that tell nothing of the one that is told."""
    met = list(start)
    place = {}
    for i in start:
        place[i] = len(place)
    at = 0
    while at < len(met):
        for step in steps:
            for j, _ in step[met[at]][1]:
                if j not in place:
                    place[j] = len(met)
                    met.append(j)
        at += 1
    if len(met) == len(firsts):
        return start, steps, firsts
    told = []
    for step in steps:
        told.append([(step[i][0], tuple([(place[j], x) for j, x in step[i][1]])) for i in met])
    return {place[i]: start[i] for i in start}, told, [firsts[i] for i in met]
