"""What a machine of rows (n, i, k) has at one size, however great, told level by level of the digits.

The numbers behind the size are counters, so they have few digits more than the size.
"""

from math import gcd

from loopsize.programs import TOP_ONE, TOP_RANGE_PART


class Layers:
    """The states of a machine that lead from the first one to an end at a size: for each level a dict that has for
    each of them its steps (digits of the counters, state behind it)."""

    def __init__(self, machine, n):
        rows, ends = machine
        fronts = [[0]]
        many = (TOP_RANGE_PART * n + TOP_ONE).bit_length()
        for level in range(many):
            first = n >> level & 1
            found = {then: True for state in fronts[-1] for then in rows[state][first::2]}
            fronts.append(list(found))
        behind = {state: [] for state in fronts[-1] if ends[state]}
        self.levels = []
        self.last = list(behind)
        for level in reversed(range(many)):
            first = n >> level & 1
            here = {}
            for state in fronts[level]:
                steps = [(at, then) for at, then in enumerate(rows[state][first::2]) if then in behind]
                if steps:
                    here[state] = steps
            self.levels.append(here)
            behind = here
        self.has_rows = len(behind) > 0

    def greatest_sum(self, factors):
        """The greatest sum of the counters times factors, None without rows."""
        if not self.has_rows:
            return None
        worth = worth_of_digits(factors)
        best = {state: 0 for state in self.last}
        for here in self.levels:
            found = {}
            for state in here:
                found[state] = max([worth[at] + 2 * best[then] for at, then in here[state]])
            best = found
        return best[0]

    def divisor_of_sums(self, factors):
        """The greatest common divisor of all sums of the counters times factors, 0 without rows.

        A state has some sum, and the divisor of the differences of all of its sums from this one.
        """
        if not self.has_rows:
            return 0
        worth = worth_of_digits(factors)
        told = {state: (0, 0) for state in self.last}
        for here in self.levels:
            found = {}
            for state in here:
                parts = [(worth[at] + 2 * told[then][0], 2 * told[then][1]) for at, then in here[state]]
                start = parts[0][0]
                divisor = 0
                for total, part in parts:
                    divisor = gcd(divisor, gcd(part, total - start))
                found[state] = (start, divisor)
            told = found
        return gcd(told[0][0], told[0][1])

    def has_rest(self, factors, m, rest):
        """Whether some sum of the counters times factors has this rest by m. The bits of a state are the rests of the
        digits that lead to it."""
        if not self.has_rows:
            return False
        worth = worth_of_digits(factors)
        bits = {0: 1}
        whole = (1 << m) - 1
        power = 1
        for here in reversed(self.levels):
            shifts = [value * power % m for value in worth]
            found = {}
            for state in bits:
                for at, then in here[state]:
                    moved = bits[state] << shifts[at]
                    found[then] = found.get(then, 0) | moved & whole | moved >> m
            bits = found
            power = power * 2 % m
        return any([bits[state] >> rest & 1 == 1 for state in bits])


def worth_of_digits(factors):
    """For each letter of the counters the sum of the factors times its digits."""
    told = [0]
    for factor in factors:
        told = told + [value + factor for value in told]
    return told


def has_rows_at(machine, n):
    """Whether some row of a machine has this first number."""
    rows, ends = machine
    front = [0]
    for level in range((TOP_RANGE_PART * n + TOP_ONE).bit_length()):
        first = n >> level & 1
        front = list({then: True for state in front for then in rows[state][first::2]})
    return any([ends[state] for state in front])
