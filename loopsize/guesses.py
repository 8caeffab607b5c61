"""Machines with all but some of the numbers left out at once, for several machines together.

The digits of the numbers that are left out are guessed: a state is a bundle of states of all the machines, kept as the
integer with the bits of these, and it is the rows that are in by one of the machines that are told.
"""

from loopsize.cuts import states_in
from loopsize.largeness import side_by_side
from loopsize.machines import leads_to

MANY_BITS = 14


class Guesses:
    """The states of some machines of one arity side by side, with the places of the numbers that are kept."""

    def __init__(self, machines, places):
        self.rows = []
        self.ends = []
        self.first = 0
        for rows, ends in machines:
            start = len(self.rows)
            self.rows.extend([[then + start for then in row] for row in rows])
            self.ends.extend(ends)
            self.first = self.first | 1 << start
        self.groups = letters_by_kept(len(machines[0][0][0]), places)
        alive = leads_to(self.rows, list(range(len(self.rows[0]))), self.ends)
        self.bits = [1 << state if alive[state] else 0 for state in range(len(self.rows))]
        self.is_end = leads_to(self.rows, self.groups[0], self.ends)
        self.behind = {}

    def bits_behind(self, state):
        """For each letter of the kept numbers the bits of the states behind a state."""
        if state not in self.behind:
            row = self.rows[state]
            told = []
            for group in self.groups:
                bits = 0
                for letter in group:
                    bits = bits | self.bits[row[letter]]
                told.append(bits)
            self.behind[state] = told
        return self.behind[state]

    def bundles_behind(self, bundle):
        told = [0] * len(self.groups)
        while bundle:
            low = bundle & -bundle
            told = [bits | more for bits, more in zip(told, self.bits_behind(low.bit_length() - 1))]
            bundle = bundle ^ low
        return told

    def bits_of(self, marked):
        return sum([bit for bit, is_marked in zip(self.bits, marked) if is_marked])

    def machine(self):
        """The machine of the kept numbers; it may have more states than are needed."""
        first = self.first & self.bits_of([True] * len(self.rows))
        place_of = {first: 0}
        bundles = [first]
        rows = []
        while len(rows) < len(bundles):
            row = []
            for then in self.bundles_behind(bundles[len(rows)]):
                if then not in place_of:
                    place_of[then] = len(bundles)
                    bundles.append(then)
                row.append(place_of[then])
            rows.append(row)
        marked = self.bits_of(self.is_end)
        return rows, [bundle & marked != 0 for bundle in bundles]

    def few_digits(self):
        """For each state an integer: its bits tell which rows of few digits are in from it."""
        told = [1 if is_end else 0 for is_end in self.is_end]
        width = 1
        while width * len(self.groups) <= 1 << MANY_BITS:
            longer = []
            for row in self.rows:
                bits = 0
                for group in self.groups:
                    part = 0
                    for letter in group:
                        part = part | told[row[letter]]
                    bits = bits << width | part
                longer.append(bits)
            told = longer
            width = width * len(self.groups)
        return told

    def surely_above(self, most, many, whole):
        """Whether the machine of the rows that are in a machine of the kept numbers and not in by one of these ones
        surely has more states: they are counted among so many bundles, told apart by rows of few digits."""
        short = self.few_digits()
        short_whole = few_digits_of(whole)
        met = [(0, self.first & self.bits_of([True] * len(self.rows)))]
        is_met = {met[0]: True}
        is_found = {}
        at = 0
        while at < len(met) and at < many and len(is_found) <= most:
            state, bundle = met[at]
            left = 0
            for other in states_in(bundle):
                left = left | short[other]
            is_found[short_whole[state] & ~left] = True
            for then in list(zip(whole[0][state], self.bundles_behind(bundle))):
                if then not in is_met:
                    is_met[then] = True
                    met.append(then)
            at += 1
        return len(is_found) > most


def few_digits_of(machine):
    """The same for a machine of which no number is left out."""
    rows, ends = machine
    told = [1 if end else 0 for end in ends]
    width = 1
    while width * len(rows[0]) <= 1 << MANY_BITS:
        told = [side_by_side([told[then] for then in row], width) for row in rows]
        width = width * len(rows[0])
    return told


def letters_by_kept(many, places):
    """For each letter of the kept numbers the letters of all numbers that have its digits."""
    told = [[] for _ in range(1 << len(places))]
    for letter in range(many):
        told[sum([(letter >> place & 1) << at for at, place in enumerate(places)])].append(letter)
    return told
