"""How many stretches the paths of a program have at small sizes, counted in plain logs.

Whether a copy takes from its own works always from as many counters away is not known for sure from small sizes. So
stretches are counted twice: as few as there may be, and as many.
"""

from loopsize.checks import statement_at
from loopsize.copies import is_copy
from loopsize.relations import meeting_gap
from loopsize.runs import log_program
from loopsize.straights import place_like

MANY_SIZES = 200
MANY_WORKS = 4000


class EarlyPaths:
    """The counts for all works at the sizes from 0 on, as far as they are few."""

    def __init__(self, program):
        self.program = program
        self.sizes = []
        self.works = 0
        self.is_copy = {}
        self.is_even = {}
        self.apart = {}
        for loop, entry in enumerate(program.loops):
            for number in range(len(entry.statements)):
                self.is_copy[(loop, number)] = is_copy(program, (loop, number))
                self.is_even[(loop, number)] = is_plainly_even(program, (loop, number))

    def at_size(self, n):
        """(log, few, many) of a size, with the numbers of stretches of all works; None if the size is too far."""
        while len(self.sizes) <= n:
            size = len(self.sizes)
            turns = sum([loop.many_turns(size) for loop in self.program.loops])
            if size > MANY_SIZES or self.works + turns > MANY_WORKS:
                return None
            self.works += turns
            self.sizes.append(self.counted(log_program(self.program, size)))
        return self.sizes[n]

    def counted(self, log):
        names = [(work[0], work[2]) for work in log.works]
        for work, name, taken in zip(log.works, names, log.takes):
            source = taken[0][2] if self.is_copy[name] else None
            if source is not None and (source[0], source[2]) == name:
                self.apart.setdefault(name, {})[work[1] - source[1]] = True
        few = {}
        many = {}
        for work, name, taken in zip(log.works, names, log.takes):
            few[work] = many[work] = 0
            if self.is_copy[name]:
                source = taken[0][2]
                is_own = source is not None and (source[0], source[2]) == name
                few[work] = few.get(source, 0) + (0 if is_own and len(self.apart[name]) == 1 else 1)
                many[work] = many.get(source, 0) + (0 if is_own and self.is_even[name] else 1)
        return log, few, many

    def first_deep(self, starts, most):
        """(n, number) of the first path with more stretches; None if this is not seen, or not for sure. starts tells
        for a log the pairs (number, work) with which paths begin, numbers ascending."""
        n = 0
        found = self.at_size(0)
        while found is not None:
            log, few, many = found
            pairs = starts(log)
            sure = [number for number, work in pairs if few.get(work, 0) > most]
            likely = [number for number, work in pairs if many.get(work, 0) > most]
            if likely:
                return (n, likely[0]) if sure[:1] == likely[:1] else None
            n += 1
            found = self.at_size(n)
        return None


def is_plainly_even(program, name):
    """Whether a read of a statement can take from its own works from one number of counters away alone."""
    statement = statement_at(program, name[0], name[1])
    if len(statement.reads) != 1:
        return False
    gap = meeting_gap(statement.reads[0].place, place_like(statement.cell))
    return gap is not None and gap[0] is not None and gap[0] >= gap[1]
