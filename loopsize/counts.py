"""Counts: functions with an integer at each integer from 0 on, as the members of sets give them."""

from loopsize.digitsets import machine_of
from loopsize.errors import BadNumber, Endless
from loopsize.kinds import is_integer, is_integer_from, is_natural
from loopsize.machines import arity_of
from loopsize.pathcounts import path_steps, rows_at_zero
from loopsize.searches import least_from
from loopsize.systems import column_at, least_system

TOP_FACTOR = 12
TOP_SHIFT = 999


class Count:
    """A count, told by its kept sections. Made by the functions of the package alone.

    length is a number that the length of the rows of its formula does not exceed.
    """

    def __init__(self, told, length):
        self.sections = told[0]
        self.firsts = told[1]
        self.rules = told[2]
        self.length = length
        self.steps = steps_of(told[2])

    def __call__(self, n):
        if not is_natural(n):
            raise BadNumber("n", n)
        return value_at(self, n)

    def __eq__(self, other):
        return isinstance(other, Count) and self.firsts == other.firsts and self.rules == other.rules

    def __add__(self, other):
        if not is_operand(other):
            return NotImplemented
        return total_of([self, count_like(other)])

    def __radd__(self, other):
        if not is_operand(other):
            return NotImplemented
        return total_of([count_like(other), self])

    def __sub__(self, other):
        if not is_operand(other):
            return NotImplemented
        return total_of([self, negative(count_like(other))])

    def __rsub__(self, other):
        if not is_operand(other):
            return NotImplemented
        return total_of([count_like(other), negative(self)])

    def __mul__(self, other):
        if not is_operand(other):
            return NotImplemented
        return product_of(self, count_like(other))

    def __rmul__(self, other):
        if not is_operand(other):
            return NotImplemented
        return product_of(count_like(other), self)

    def __neg__(self):
        return negative(self)


def steps_of(rules):
    """The rules as the steps of a system: for each digit, without the factors that are 0."""
    told = []
    for digit in (0, 1):
        step = []
        for pair in rules:
            many, factors = pair[digit]
            step.append((many, tuple([(j, factor) for j, factor in enumerate(factors) if factor != 0])))
        told.append(tuple(step))
    return tuple(told)


def value_at(count, n):
    """The value at n: as long as the lowest digit tells a section as a multiple of one kept section, this one is
    followed; what remains is found from the highest digit on."""
    if not count.firsts:
        return 0
    place = 0
    factor = 1
    many, parts = count.steps[n & 1][place]
    while n > 0 and many == 1 and len(parts) == 1:
        place = parts[0][0]
        factor = factor * parts[0][1]
        n = n >> 1
        many, parts = count.steps[n & 1][place]
    return factor * column_at(count.steps, list(count.firsts), n)[place]


def is_operand(value):
    return is_integer(value) or isinstance(value, Count)


def constant_count(value):
    if value == 0:
        return Count(((), (), ()), 1)
    return Count((((0, 0),), (value,), (((1, (1,)), (1, (1,))),)), 1)


def count_like(value):
    return value if isinstance(value, Count) else constant_count(value)


def negative(count):
    return Count((count.sections, tuple([-first for first in count.firsts]), count.rules), count.length)


def total_of(counts):
    """The sum of counts: their systems stand side by side."""
    length = max([1] + [count.length for count in counts])
    counts = together_by_rules([count for count in counts if count.firsts])
    if len(counts) == 1 and counts[0][2]:
        return Count(counts[0][2], length)
    start = {}
    firsts = []
    low = []
    high = []
    for own, steps, _ in counts:
        places = list(range(len(firsts), len(firsts) + len(own)))
        start[places[0]] = 1
        firsts = firsts + own
        low = low + moved_step(steps[0], places)
        high = high + moved_step(steps[1], places)
    return Count(least_system((start, (low, high), firsts), False), length)


def together_by_rules(counts):
    """(firsts, steps, told) for each rules of the counts: those with the same rules are added up.

    told is what makes the count, if there was just one with these rules, otherwise it is empty.
    """
    told = []
    done = []
    for at, count in enumerate(counts):
        if at in done:
            continue
        same = [place for place in range(at, len(counts)) if counts[place].rules == count.rules]
        done = done + same
        rows = [counts[place].firsts for place in same]
        firsts = [sum(column) for column in list(zip(*rows))]
        if any([first != 0 for first in firsts]):
            parts = (count.sections, count.firsts, count.rules) if len(same) == 1 else ()
            told.append((firsts, count.steps, parts))
    return told


def moved_step(step, places):
    return [(many, tuple([(places[j], factor) for j, factor in parts])) for many, parts in step]


def product_of(one, other):
    """The product of two counts: all products of their kept sections make a system."""
    wide = len(other.firsts)
    firsts = [first * second for first in one.firsts for second in other.firsts]
    low = product_step(one.steps[0], other.steps[0], wide)
    high = product_step(one.steps[1], other.steps[1], wide)
    return Count(least_system((first_alone(firsts), (low, high), firsts), False), one.length + other.length - 1)


def first_alone(firsts):
    """The row that tells the first function of a system, if there is one."""
    return {0: 1} if firsts else {}


def product_step(one, other, wide):
    told = []
    for many, parts in one:
        for other_many, other_parts in other:
            pairs = [(i * wide + j, x * y) for i, x in parts for j, y in other_parts]
            told.append((many * other_many, tuple(pairs)))
    return told


def count_of(s):
    """The count of the rows of a set that have the same first number."""
    return count_of_machine(machine_of(s))


def count_of_machine(machine):
    """The same for the rows that are in by a machine, of any number of states."""
    firsts = rows_at_zero(machine)
    arity = arity_of(machine)
    if -1 in firsts:
        goals = [many == -1 for many in firsts]
        raise Endless(least_from(machine[0], goals, [], 0, arity - 1))
    return Count(least_system(({0: 1}, path_steps(machine[0]), firsts), False), arity)


def sum_of(counts):
    return total_of(counts)


def composed(count, factor, shift):
    """The count whose value at n is that of the count at factor * n + shift.

    Its system has, for each carry that can come, the kept sections of the count at factor * n + carry.
    """
    if not is_integer_from(factor, 0, TOP_FACTOR):
        raise BadNumber("factor", factor)
    if not is_integer_from(shift, 0, TOP_SHIFT):
        raise BadNumber("shift", shift)
    carries = carries_from(factor, shift)
    place = {}
    for at, carry in enumerate(carries):
        place[carry] = at * len(count.firsts)
    steps = ([], [])
    firsts = []
    for carry in carries:
        firsts.extend(column_at(count.steps, list(count.firsts), carry))
        for digit in (0, 1):
            then = factor * digit + carry
            low = place[then // 2]
            places = list(range(low, low + len(count.firsts)))
            steps[digit].extend(moved_step(count.steps[then % 2], places))
    return Count(least_system((first_alone(firsts), steps, firsts), False), count.length)


def carries_from(factor, shift):
    """What can be carried when factor * n + shift is reckoned digit by digit."""
    told = [shift]
    at = 0
    while at < len(told):
        for digit in (0, 1):
            carry = (factor * digit + told[at]) // 2
            if carry not in told:
                told.append(carry)
        at += 1
    return told


def total_below(count):
    """The count whose value at n is the sum of the values of the count at 0 to n - 1.

    The sum below 2 * n + digit is that below n of the sections for both digits, and for the digit 1 the value at
    2 * n besides.
    """
    many = len(count.firsts)
    low, high = count.steps
    sums = []
    more = []
    for i in range(many):
        common, parts = parts_together(low[i], high[i])
        sums.append((common, tuple(parts)))
        extra = [(j + many, x * (common // low[i][0])) for j, x in low[i][1]]
        more.append((common, tuple(parts + extra)))
    places = list(range(many, 2 * many))
    steps = (sums + moved_step(low, places), more + moved_step(high, places))
    firsts = [0] * many + list(count.firsts)
    return Count(least_system((first_alone(firsts), steps, firsts), False), count.length + 1)


def parts_together(one, other):
    """The sum of two entries of steps: (many, parts)."""
    common = one[0] * other[0]
    parts = [(j, x * other[0]) for j, x in one[1]] + [(j, x * one[0]) for j, x in other[1]]
    return common, parts


def differs_at(a, b):
    """The least n at which two counts have unlike values, None if there is none.

    If n is the least one, with k digits, the section (k, n) of the difference is kept: it is not 0 at 0, and those
    ahead of it are.
    """
    difference = a - b
    found = [name[1] for name, first in zip(difference.sections, difference.firsts) if first != 0]
    return min(found) if found else None
