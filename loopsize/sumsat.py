"""Which numbers are sums of counters at one size, told by their digits, the lowest ones first.

The digits of the counters are guessed: what is known behind some digits of the number is a bundle of tuples (part,
state, carry), part the place of one of the sums, state one of its layers, and carry what the digits to come must make.
"""

from loopsize.layers import worth_of_digits


class SumsAt:
    """The numbers x from 0 on such that scale * x is the sum of the counters times factors, and a constant, by one of
    the entries (layers, factors, constant). All layers are those of one size."""

    def __init__(self, entries, scale):
        self.scale = scale
        self.parts = []
        self.start = []
        for layers, factors, constant in entries:
            if layers.has_rows:
                self.start.append((len(self.parts), 0, constant))
                self.parts.append((layers.levels[::-1], worth_of_digits(factors)))
        self.last = len(self.parts[0][0]) if self.parts else 0
        self.known = {}
        self.done = {}

    def behind(self, level, bundle):
        """The bundles behind the digits 0 and 1 of the number."""
        key = (level, bundle)
        if key not in self.known:
            told = ({}, {})
            for part, state, carry in bundle:
                for total, then in self.totals(part, level, state, carry):
                    for digit in (0, 1):
                        left = total - digit * self.scale
                        if left & 1 == 0 and (level + 1 < self.last or left >= 0):
                            told[digit][(part, then, left >> 1)] = True
            self.known[key] = [tuple(sorted(found)) for found in told]
        return self.known[key]

    def totals(self, part, level, state, carry):
        """Pairs of a carry with the digits of the counters at a level, and of the state behind them."""
        if level >= self.last:
            return [(carry, state)]
        levels, worth = self.parts[part]
        return [(carry + worth[at], then) for at, then in levels[level][state]]

    def is_done(self, level, bundle):
        """Whether a number may end here: all its digits to come are zeros."""
        chain = []
        while bundle and level < self.last and (level, bundle) not in self.done:
            chain.append((level, bundle))
            bundle = self.behind(level, bundle)[0]
            level += 1
        told = self.done.get((level, bundle), any([carry == 0 for _, _, carry in bundle]))
        for key in chain:
            self.done[key] = told
        return told

    def has_number(self, number):
        bundle = tuple(self.start)
        level = 0
        while bundle and number >> level:
            bundle = self.behind(level, bundle)[number >> level & 1]
            level += 1
        return self.is_done(level, bundle)

    def numbers_below(self, power):
        """The numbers that are below 2 to this power."""
        found = {tuple(self.start): [0]}
        for level in range(power):
            longer = {}
            for bundle in found:
                for digit, then in enumerate(self.behind(level, bundle)):
                    if then:
                        longer.setdefault(then, []).extend([number + (digit << level) for number in found[bundle]])
            found = longer
        told = []
        for bundle in found:
            if self.is_done(power, bundle):
                told.extend(found[bundle])
        return sorted(told)

    def machine(self):
        """The machine of the numbers; it may have more states than are needed."""
        place_of = {(0, tuple(self.start)): 0}
        met = list(place_of)
        rows = []
        while len(rows) < len(met):
            level, bundle = met[len(rows)]
            row = []
            for then in self.behind(level, bundle):
                code = (min(level + 1, self.last), then) if then else (0, ())
                if code not in place_of:
                    place_of[code] = len(met)
                    met.append(code)
                row.append(place_of[code])
            rows.append(row)
        return rows, [self.is_done(level, bundle) for level, bundle in met]
