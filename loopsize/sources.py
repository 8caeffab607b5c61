"""From which works the accesses of a program take, told by machines.

An access is that of a read or of a write; the source of a write is the work that wrote the cell last ahead of it.
"""

from loopsize.checks import statement_at
from loopsize.conditionsets import in_all, least_machine
from loopsize.cuts import left_machine
from loopsize.machines import BOTH, EITHER, empty_machine, in_first_alone, joined, joined_freely, widened_machine
from loopsize.relations import ANY_GAP, cells_machine, gap_ahead, gap_machine, place_of_access
from loopsize.workmachines import work_machine


class Sources:
    """Tells of a program which works are there, and from which ones the accesses take. It keeps what it has told."""

    def __init__(self, program):
        self.program = program
        self.works = {}
        self.wide = {}
        self.found = {}
        self.late = {}
        self.reaches = {}
        self.overs = {}
        self.taken = {}
        # What others made of it.
        self.told = {}

    def works_of(self, name):
        """The machine of the works (n, i) of a statement."""
        if name not in self.works:
            loop, statement = name
            self.works[name] = work_machine(self.program.loops[loop], statement_at(self.program, loop, statement))
        return self.works[name]

    def wide_works(self, name, place):
        """The same with any number put in at the place 1 or 2."""
        key = (name, place)
        if key not in self.wide:
            self.wide[key] = widened_machine(self.works_of(name), place)
        return self.wide[key]

    def same_cell_parts(self, access, writer):
        """The machines of the rows (n, j, i) at which an access at j and a writer at i are of one cell."""
        array, place = place_of_access(self.program, access)
        written = statement_at(self.program, writer[0], writer[1])
        if written.array != array:
            return [empty_machine(3)]
        works = [self.wide_works(access[:2], 2), self.wide_works(writer, 1)]
        return [cells_machine(place, written.cell)] + works

    def ahead_parts(self, one, other):
        """The machines of the rows (n, j, i) at which other at i comes ahead of one at j."""
        gap = gap_ahead(self.program, one, other)
        if gap is None:
            return [empty_machine(3)]
        return [gap_machine(gap), self.wide_works(one, 2), self.wide_works(other, 1)]

    def candidates(self, access, writer):
        """The machine of the rows (n, j, i) at which a writer at i has written the cell ahead of an access at j."""
        key = (access, writer)
        if key not in self.found:
            gap = gap_ahead(self.program, access[:2], writer)
            if gap is None:
                self.found[key] = empty_machine(3)
            else:
                order = [] if gap == ANY_GAP else [gap_machine(gap)]
                self.found[key] = in_all(order + self.same_cell_parts(access, writer))
        return self.found[key]

    def with_later(self, access, writer):
        """The rows (n, j, k) such that a writer has written the cell ahead of an access in a later turn than k."""
        key = (access, writer)
        if key not in self.late:
            machine = widened_machine(self.candidates(access, writer), 2)
            factors = (0, 0, 1, -1) if self.program.loops[writer[0]].down else (0, 0, -1, 1)
            rows, ends = joined_freely(machine, least_machine(factors, 1), BOTH)
            self.late[key] = left_machine((rows, ends), 3)
        return self.late[key]

    def reach(self, access, writer):
        """The works (n, j) of an access whose cell a writer has written ahead of it."""
        key = (access, writer)
        if key not in self.reaches:
            self.reaches[key] = left_machine(self.candidates(access, writer), 2)
        return self.reaches[key]

    def reaches_from(self, access, first):
        """The same for all writers from a loop on, without those that are empty."""
        told = []
        for loop in range(first, access[0] + 1):
            for writer in self.writers_for(access, loop):
                if not is_empty(self.candidates(access, writer)):
                    told.append(self.reach(access, writer))
        return told

    def written_over(self, writer, other):
        """The works (n, i) of a writer whose cell the other one writes later."""
        key = (writer, other)
        if key not in self.overs:
            write = (*other, len(statement_at(self.program, other[0], other[1]).reads))
            self.overs[key] = left_machine(self.candidates(write, writer), 1)
        return self.overs[key]

    def candidates_from(self, access, first):
        """The candidates of all writers from a loop on, without those that are empty."""
        told = []
        for loop in range(first, access[0] + 1):
            for writer in self.writers_for(access, loop):
                if not is_empty(self.candidates(access, writer)):
                    told.append(self.candidates(access, writer))
        return told

    def writers_for(self, access, loop):
        return writers_in(self.program, loop, place_of_access(self.program, access)[0])

    def parts_behind(self, access, writer):
        """Machines of rows (n, j, i): where one of the candidates is in one of them, another work comes behind it."""
        loop = writer[0]
        told = []
        for between in range(loop + 1, access[0]):
            for other in self.writers_for(access, between):
                told.append(widened_machine(self.written_over(writer, other), 1))
        if loop < access[0]:
            told.extend([widened_machine(machine, 2) for machine in self.reaches_from(access, access[0])])
        cell = statement_at(self.program, loop, writer[1]).cell
        for other in self.writers_for(access, loop):
            # A cell that goes with the counter is written in one turn alone.
            other_cell = statement_at(self.program, loop, other[1]).cell
            if other_cell.i == 0 or other_cell != cell:
                told.append(self.with_later(access, other))
            if other[1] > writer[1]:
                told.append(self.candidates(access, other))
        return told

    def taken_from(self, access, writer):
        """The machine of the rows (n, j, i) at which the source of an access at j is the work of a writer at i."""
        key = (access, writer)
        if key not in self.taken:
            candidates = self.candidates(access, writer)
            others = [] if is_empty(candidates) else self.parts_behind(access, writer)
            self.taken[key] = without_all(candidates, others)
        return self.taken[key]

    def taken_by(self, access):
        """For each writer that is a source of an access the same machine."""
        told = {}
        for loop in range(access[0] + 1):
            for writer in self.writers_for(access, loop):
                machine = self.taken_from(access, writer)
                if not is_empty(machine):
                    told[writer] = machine
        return told


def sources_for(program):
    """What tells the sources of a program, the same one each time."""
    if "sources" not in program.known:
        program.known["sources"] = Sources(program)
    return program.known["sources"]


def is_empty(machine):
    return len(machine[0]) == 1 and not machine[1][0]


def without_all(machine, others):
    """The machine of the rows that are in one machine and in none of some others."""
    for other in others:
        if is_empty(machine):
            return machine
        machine = in_first_alone(machine, other)
    return machine


def in_any(machines):
    """The machine of the rows that are in one of some machines, at least one."""
    told = machines[0]
    for machine in machines[1:]:
        told = joined(told, machine, EITHER)
    return told


def writers_in(program, loop, array):
    """The statements of a loop that write an array."""
    told = []
    for number, statement in enumerate(program.loops[loop].statements):
        if statement.array == array:
            told.append((loop, number))
    return told


def writers_of(program, array):
    """All statements that write an array."""
    told = []
    for loop in range(len(program.loops)):
        told.extend(writers_in(program, loop, array))
    return told


def reads_of(program, array):
    """All reads of an array, as tuples (loop, statement, read)."""
    told = []
    for place, loop in enumerate(program.loops):
        for number, statement in enumerate(loop.statements):
            for at, read in enumerate(statement.reads):
                if read.array == array:
                    told.append((place, number, at))
    return told
