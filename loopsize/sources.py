"""From which works the accesses of a program take, told by machines.

An access is that of a read or of a write; the source of a write is the work that wrote the cell last ahead of it.
"""

from loopsize.checks import statement_at
from loopsize.conditionsets import in_all, least_machine
from loopsize.cuts import left_freely, left_machine
from loopsize.machines import BOTH, EITHER, FIRST_ALONE, empty_machine, joined, joined_freely, minimal, widened_machine
from loopsize.relations import ANY_GAP, cells_machine, gap_ahead, gap_machine, place_of_access
from loopsize.workmachines import work_machine


class Sources:
    """Tells of a program which works are there, and from which ones the accesses take."""

    def __init__(self, program):
        self.program = program
        self.works = {}
        self.wide = {}

    def works_of(self, name):
        """The machine of the works (n, i) of a statement."""
        if name not in self.works:
            loop, statement = name
            self.works[name] = work_machine(self.program.loops[loop], statement_at(self.program, loop, statement))
        return self.works[name]

    def wide_works(self, name, place):
        """The same with any number put in at the place 1 or 2."""
        key = (name, place)
        if key not in self.wide:
            self.wide[key] = widened_machine(self.works_of(name), place)
        return self.wide[key]

    def same_cell_parts(self, access, writer):
        """The machines of the rows (n, j, i) at which an access at j and a writer at i are of one cell."""
        array, place = place_of_access(self.program, access)
        written = statement_at(self.program, writer[0], writer[1])
        if written.array != array:
            return [empty_machine(3)]
        works = [self.wide_works(access[:2], 2), self.wide_works(writer, 1)]
        return [cells_machine(place, written.cell)] + works

    def ahead_parts(self, one, other):
        """The machines of the rows (n, j, i) at which other at i comes ahead of one at j."""
        gap = gap_ahead(self.program, one, other)
        if gap is None:
            return [empty_machine(3)]
        return [gap_machine(gap), self.wide_works(one, 2), self.wide_works(other, 1)]

    def candidates(self, access, writer):
        """The machine of the rows (n, j, i) at which a writer at i has written the cell ahead of an access at j; None
        if there are none."""
        gap = gap_ahead(self.program, access[:2], writer)
        if gap is None:
            return None
        order = [] if gap == ANY_GAP else [gap_machine(gap)]
        told = in_all(order + self.same_cell_parts(access, writer))
        return None if is_empty(told) else told

    def of_access(self, access, until):
        """The sources of an access among the loops from its own one down to the loop until.

        They are a dict with a machine of rows (n, j, i) for each writer that is a source, and the machine of the
        pairs (n, j) that have no source there.
        """
        rest = self.works_of(access[:2])
        told = {}
        for loop in reversed(range(until, access[0] + 1)):
            found = self.of_loop(access, loop)
            if found and not is_empty(rest):
                wide = widened_machine(rest, 2)
                for writer, machine in self.last_ones(loop, found):
                    taken = machine if loop == access[0] else joined(machine, wide, BOTH)
                    if not is_empty(taken):
                        told[writer] = taken
                rest = joined(rest, left_machine(in_any([machine for _, machine in found]), 2), FIRST_ALONE)
        return told, rest

    def of_loop(self, access, loop):
        """Pairs (writer, machine) of the candidates in a loop."""
        array = place_of_access(self.program, access)[0]
        told = []
        for writer in writers_in(self.program, loop, array):
            machine = self.candidates(access, writer)
            if machine is not None:
                told.append((writer, machine))
        return told

    def last_ones(self, loop, found):
        """The same pairs with those works alone that are the last ones of the loop to write the cell."""
        cells = [statement_at(self.program, writer[0], writer[1]).cell for writer, _ in found]
        told = found
        if cells[0].i == 0 or any([cell != cells[0] for cell in cells]):
            every = in_any([machine for _, machine in found])
            early = with_later(every, self.program.loops[loop].down)
            told = [(writer, joined(machine, early, FIRST_ALONE)) for writer, machine in found]
        last = []
        for at, (writer, machine) in enumerate(told):
            for _, other in told[at + 1:]:
                machine = joined(machine, other, FIRST_ALONE)
            last.append((writer, machine))
        return last


def is_empty(machine):
    return len(machine[0]) == 1 and not machine[1][0]


def in_any(machines):
    """The machine of the rows that are in one of some machines, at least one."""
    told = machines[0]
    for machine in machines[1:]:
        told = joined(told, machine, EITHER)
    return told


def with_later(machine, down):
    """The rows (n, j, i) such that some row (n, j, k) is in with k in a later turn than i."""
    factors = (0, 0, 1, -1) if down else (0, 0, -1, 1)
    rows, ends = joined_freely(widened_machine(machine, 2), least_machine(factors, 1), BOTH)
    rows, ends = left_freely((rows, ends), 3)
    return minimal(rows, ends)


def writers_in(program, loop, array):
    """The statements of a loop that write an array."""
    told = []
    for number, statement in enumerate(program.loops[loop].statements):
        if statement.array == array:
            told.append((loop, number))
    return told


def writers_of(program, array):
    """All statements that write an array."""
    told = []
    for loop in range(len(program.loops)):
        told.extend(writers_in(program, loop, array))
    return told


def reads_of(program, array):
    """All reads of an array, as tuples (loop, statement, read)."""
    told = []
    for place, loop in enumerate(program.loops):
        for number, statement in enumerate(loop.statements):
            for at, read in enumerate(statement.reads):
                if read.array == array:
                    told.append((place, number, at))
    return told
