"""Formulas of counts: how counts go on."""

from math import comb

from loopsize.counts import Count
from loopsize.errors import BadNumber, TooFar, TooMany
from loopsize.rowvalues import differences, first_positive, moved_back, peak_from, row_value
from loopsize.sectionvalues import values_behind
from loopsize.systems import column_at, column_behind, least_system, pivot_of, reduced, row_of

TOP_PERIOD = 60
TOP_START = 10000
TOP_EARLY = 60
TIERS = (6, 20, 60)
MANY_SECTIONS = 24
SOME = 8


class Formula:
    """The formula of a count. Made by the functions of the package alone."""

    def __init__(self, rows, start, early):
        self.rows = rows
        self.period = len(rows)
        self.start = start
        self.early = early

    def __call__(self, n):
        return value_of_rows(self.rows, n)

    def __eq__(self, other):
        if not isinstance(other, Formula):
            return False
        return self.rows == other.rows and self.start == other.start and self.early == other.early


def value_of_rows(rows, n):
    row = rows[n % len(rows)]
    return row[0] if len(row) == 1 else row_value(row, n // len(rows))


def formula_of(count):
    """The formula of a count, with the least period, length and start.

    Far away, where the count surely has the values of its formula, the least period that will do is looked for. Small
    ones are tried first, as fewer values tell whether they may be right; but not if it takes long to see that they
    are not.
    """
    if not count.firsts:
        return Formula(((0,),), 0, ())
    levels = (2 * TOP_PERIOD * count.length).bit_length()
    far = 1 << max(len(count.sections), levels)
    column = column_at(count.steps, list(count.firsts), far >> levels)
    for top in TIERS if len(count.sections) <= MANY_SECTIONS else TIERS[-1:]:
        values = values_behind(count.steps, column, levels, 2 * top * count.length)
        period = period_in(values, count.length, top)
        if period is not None:
            formula = formula_with(count, rows_in(values, far, period, count.length))
            if formula is not None:
                return formula
    raise TooFar("period", TOP_PERIOD)


def formula_with(count, rows):
    """The formula with these rows; None if the values that told them were so by chance alone."""
    tables = section_tables(count, rows)
    if not fit_rules(count, tables):
        return None
    many = many_unlike(count, tables)
    if many is None:
        return None
    values = values_behind(count.steps, list(count.firsts), many.bit_length(), many)
    start = many
    while start > 0 and values[start - 1] == value_of_rows(rows, start - 1):
        start -= 1
    if start > TOP_START:
        raise TooFar("start", TOP_START)
    return Formula(rows, start, tuple(values[:start]))


def period_in(values, length, top):
    """The least period up to top for rows of this length that the values have, None if there is none."""
    for period in range(1, top + 1):
        # Most periods are refused by few values.
        if is_period(values[:period * length + SOME], period, length) and is_period(values, period, length):
            return period
    return None


def is_period(values, period, length):
    """Whether the differences at a distance of the period, made as often as the rows are long, are 0."""
    for _ in range(length - 1):
        values = [after - before for before, after in zip(values, values[period:])]
    return values[period:] == values[:len(values) - period]


def rows_in(values, far, period, length):
    """The rows that have these values from far on, all as short as can be."""
    rows = []
    for rest in range(period):
        at = (rest - far) % period
        row = differences([values[at + j * period] for j in range(length)])
        rows.append(moved_back(row, (far + at) // period))
    many = max([needed_length(row) for row in rows])
    return tuple([tuple(row[:many]) for row in rows])


def needed_length(row):
    many = len(row)
    while many > 1 and row[many - 1] == 0:
        many -= 1
    return many


def section_tables(count, rows):
    """For each kept section the values of the rows where the section takes its own: twice as many as tell them all."""
    many = 2 * len(rows) * len(rows[0])
    if len(rows[0]) > 1:
        return [[value_of_rows(rows, (n << k) + r) for n in range(many)] for k, r in count.sections]
    values = [row[0] for row in rows]
    return [[values[((n << k) + r) % len(rows)] for n in range(many)] for k, r in count.sections]


def fit_rules(count, tables):
    """Whether the sections of the rows keep to the rules of those of the count."""
    for digit in (0, 1):
        for table, (many, parts) in zip(tables, count.steps[digit]):
            told = table[digit::2]
            if many != 1:
                told = [many * value for value in told]
            if told != sum_of_tables(tables, parts, len(told)):
                return False
    return True


def sum_of_tables(tables, parts, many):
    """The sums of some tables, each one so often, at the numbers below many."""
    if len(parts) == 1 and parts[0][1] == 1:
        return tables[parts[0][0]][:many]
    told = [0] * many
    for j, factor in parts:
        told = [value + factor * entry for value, entry in zip(told, tables[j])]
    return told


def many_unlike(count, tables):
    """A number from which on the count has the values of the rows, None if there is none.

    What the sections of both differ by keeps to the rules of the count, too. So if all of them are alike at all
    numbers of one length, they are so at all longer ones.
    """
    column = [first - table[0] for first, table in zip(count.firsts, tables)]
    many = lengths_unlike(count.steps, column_behind(count.steps[1], column))
    if many is not None and (1 << many) > 2 * TOP_START:
        raise TooFar("start", TOP_START)
    return None if many is None else 1 << many


def lengths_unlike(steps, first):
    """How many digits numbers can have at which the columns are not all 0; None if there is no greatest such number.

    For each length the space of the columns is told. Once it holds that of the length before, it does so ever on.
    """
    basis, columns = independent_ones([first])
    many = 0
    while columns:
        behind = [column_behind(step, column) for column in columns for step in steps]
        before = columns
        basis, columns = independent_ones(behind)
        many += 1
        if many > len(first) or all([not reduced(basis, row_of(column)) for column in before]):
            return None
    return many


def independent_ones(columns):
    """A basis of the space of the columns, and those of them that made it."""
    basis = []
    told = []
    for column in columns:
        row = reduced(basis, row_of(column))
        pivot = pivot_of(row, len(column))
        if pivot is not None:
            basis.append((pivot, row))
            told.append(column)
    return basis, told


def count_from(early, rows):
    """The count whose value at n is early[n], behind these that of the formula with the rows.

    Its system has a function for each entry of the rows, alone at its numbers and 0 at others, and one for each
    early value; no two of them touch, so they are independent.
    """
    if not 1 <= len(rows) <= TOP_PERIOD:
        raise BadNumber("rows", len(rows))
    if len(early) > TOP_EARLY:
        raise TooMany("early", len(early), TOP_EARLY)
    length = max([len(row) for row in rows])
    flat = []
    for row in rows:
        flat.extend([*row, *([0] * (length - len(row)))])
    many = len(flat)
    entries = flat + [value - value_of_rows(rows, n) for n, value in enumerate(early)]
    firsts = [1 if at in (0, many) else 0 for at in range(len(entries))]
    steps = []
    for digit in (0, 1):
        step = row_step(len(rows), length, digit)
        for n in range(len(early)):
            step.append((1, ((many + n // 2, 1),) if n % 2 == digit else ()))
        steps.append(step)
    return Count(least_system((row_of(entries), steps, firsts), True), length)


def row_step(period, length, digit):
    """For each rest and each place j of a row: what the choices of j of t come to, at 2 * n + digit, told at n."""
    told = [[] for _ in range(period * length)]
    for rest in range(period):
        shift, source = divmod(2 * rest + digit, period)
        for j in range(length):
            parts = differences([comb(2 * u + shift, j) for u in range(j + 1)])
            for place, factor in enumerate(parts):
                told[source * length + j].append((rest * length + place, factor))
    return [(1, tuple(parts)) for parts in told]


def first_above(a, b):
    """The least n at which the count a has a greater value than the count b, None if there is none."""
    return first_from(formula_of(a - b), 1)


def first_from(formula, bound):
    """The least n at which a count with this formula is not below a bound, None if there is none."""
    for n, value in enumerate(formula.early):
        if value >= bound:
            return n
    found = []
    for rest, row in enumerate(formula.rows):
        t = first_positive((row[0] - bound + 1, *row[1:]), first_turn(formula, rest))
        if t is not None:
            found.append(t * formula.period + rest)
    return min(found) if found else None


def first_turn(formula, rest):
    """The least t at which the row with this number stands for a number from the start on."""
    return max(0, -((rest - formula.start) // formula.period))


def peak_of(count):
    """(value, n) of the greatest value and the least n that has it, None if there is no greatest one."""
    formula = formula_of(count)
    found = [(-value, n) for n, value in enumerate(formula.early)]
    for rest, row in enumerate(formula.rows):
        peak = peak_from(row, first_turn(formula, rest))
        if peak is None:
            return None
        found.append((-peak[0], peak[1] * formula.period + rest))
    value, n = min(found)
    return -value, n
