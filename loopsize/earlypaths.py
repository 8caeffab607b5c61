"""How many stretches the paths of a program have at small sizes, counted in plain logs.

Whether a copy takes from its own works always from as many counters away is not known for sure from small sizes. So
stretches are counted twice: as few as there may be, and as many.
"""

from loopsize.checks import statement_at
from loopsize.copies import is_copy
from loopsize.relations import meeting_gap
from loopsize.runs import log_program
from loopsize.straights import place_like

MANY_SIZES = 1000
FEW_TURNS = 4000


class EarlyPaths:
    """The counts for all works at small sizes; those of the first sizes are kept."""

    def __init__(self, program):
        self.program = program
        self.sizes = []
        self.turns = 0
        self.is_copy = {}
        self.is_even = {}
        self.apart = {}
        for loop, entry in enumerate(program.loops):
            for number in range(len(entry.statements)):
                self.is_copy[(loop, number)] = is_copy(program, (loop, number))
                self.is_even[(loop, number)] = is_plainly_even(program, (loop, number))

    def at_size(self, n, turns):
        """(log, few, many) of a size that has so many turns, with the numbers of stretches of all works."""
        if n < len(self.sizes):
            return self.sizes[n]
        told = self.counted(log_program(self.program, n))
        if n == len(self.sizes) and self.turns + turns <= FEW_TURNS:
            self.sizes.append(told)
            self.turns += turns
        return told

    def counted(self, log):
        names = [(work[0], work[2]) for work in log.works]
        for work, name, taken in zip(log.works, names, log.takes):
            source = taken[0][2] if self.is_copy[name] else None
            if source is not None and (source[0], source[2]) == name:
                self.apart.setdefault(name, {})[work[1] - source[1]] = True
        few = {}
        many = {}
        for work, name, taken in zip(log.works, names, log.takes):
            few[work] = many[work] = 0
            if self.is_copy[name]:
                source = taken[0][2]
                is_own = source is not None and (source[0], source[2]) == name
                few[work] = few.get(source, 0) + (0 if is_own and len(self.apart[name]) == 1 else 1)
                many[work] = many.get(source, 0) + (0 if is_own and self.is_even[name] else 1)
        return log, few, many

    def first_deep(self, starts, most, many_turns):
        """(n, number) of the first path with more stretches; None if this is not seen in so many turns, or not for
        sure. starts tells for a log the pairs (number, work) with which paths begin, numbers ascending."""
        for n in range(MANY_SIZES):
            turns = sum([loop.many_turns(n) for loop in self.program.loops])
            many_turns -= turns
            if many_turns < 0:
                return None
            log, few, many = self.at_size(n, turns)
            pairs = starts(log)
            sure = [number for number, work in pairs if few.get(work, 0) > most]
            likely = [number for number, work in pairs if many.get(work, 0) > most]
            if likely:
                return (n, likely[0]) if sure[:1] == likely[:1] else None
        return None


def is_plainly_even(program, name):
    """Whether a read of a statement can take from its own works from one number of counters away alone."""
    statement = statement_at(program, name[0], name[1])
    if len(statement.reads) != 1:
        return False
    gap = meeting_gap(statement.reads[0].place, place_like(statement.cell))
    return gap is not None and gap[0] is not None and gap[0] >= gap[1]
