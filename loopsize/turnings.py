"""Works that meet and are turned about by a rewriting, told by machines.

The rows are (n, i, k): i is the counter of the work that comes first in the program before, k that of the later one,
which comes first in the program after.
"""

from loopsize.conditionsets import in_all
from loopsize.cuts import put_machine
from loopsize.machines import BOTH, joined_freely, widened_machine
from loopsize.relations import gap_ahead, gap_machine, meeting_machine, place_of_access
from loopsize.rewriting import stands_for
from loopsize.shifts import first_at, least_size, moved_machine
from loopsize.workmachines import work_machine

FAR_GAP = 600
WRITE = -1


class Stand:
    """A statement of the program after, with the counters of the one of the program before for which it stands."""

    def __init__(self, rewriting, name, stand):
        self.name = name
        self.place = stand[:2]
        self.shift = stand[2]
        self.loop = rewriting.after.loops[stand[0]]
        self.works = []

    def wide_works(self, place):
        """The machine of the works (n, i), with any number put in at the place 1 or 2."""
        if not self.works:
            own = moved_machine(work_machine(self.loop, self.loop.statements[self.place[1]]), 1, self.shift)
            self.works.extend([widened_machine(own, 1), widened_machine(own, 2)])
        return self.works[place - 1]


class Turnings:
    """Tells of a rewriting which works meet and change places."""

    def __init__(self, rewriting):
        self.rewriting = rewriting
        self.meetings = {}
        self.couples = []
        stands = stands_of(rewriting)
        for one in stands:
            for other in stands:
                gap = turned_gap(rewriting, one, other)
                if gap is not None:
                    self.couples.append((one, other, gap))

    def meetings_of(self, one, other):
        """For two accesses each of two statements that touch one array, one of them a write: tuples (access, access,
        array, machine), the machine of the rows (n, i, k) at which they are of one cell."""
        if (one, other) not in self.meetings:
            told = []
            for access, array, place in all_places(self.rewriting.before, one):
                for other_access, other_array, other_place in all_places(self.rewriting.before, other):
                    if array == other_array and WRITE in (access, other_access):
                        told.append((access, other_access, array, meeting_machine(place, other_place)))
            self.meetings[(one, other)] = told
        return self.meetings[(one, other)]

    def machine_of(self, couple, meeting):
        """A machine of the rows (n, i, k) of two stands that meet so and change places, None if it has no rows; it may
        have more states than are needed."""
        one, other, gap = couple
        told = in_all([gap_machine(gap), meeting, one.wide_works(2)])
        rows, ends = joined_freely(told, other.wide_works(1), BOTH)
        return (rows, ends) if True in ends else None

    def pairs(self):
        """(name, other name, machine) for all accesses of stands at which works meet and change places."""
        told = []
        for couple in self.couples:
            one, other, _ = couple
            for _, _, _, meeting in self.meetings_of(one.name, other.name):
                machine = self.machine_of(couple, meeting)
                if machine is not None:
                    told.append((one.name, other.name, machine))
        return told

    def is_turned(self):
        """Whether any works meet and change places."""
        for couple in self.couples:
            one, other, _ = couple
            for _, _, _, meeting in self.meetings_of(one.name, other.name):
                if self.machine_of(couple, meeting) is not None:
                    return True
        return False

    def mixed_arrays(self):
        """The arrays of which two writes of one cell change places: a dict with, for each of them, the first loop of
        the program before by which both writes can be done."""
        told = {}
        for couple in sorted(self.couples, key=last_loop):
            one, other, _ = couple
            for access, other_access, array, meeting in self.meetings_of(one.name, other.name):
                if access == other_access == WRITE and array not in told:
                    if self.machine_of(couple, meeting) is not None:
                        told[array] = last_loop(couple)
        return told

    def moved_reads(self, mixed):
        """The reads that change places with a write of their cell, but for those behind writes that do so."""
        told = []
        for couple in self.couples:
            one, other, _ = couple
            for access, other_access, array, meeting in self.meetings_of(one.name, other.name):
                read = (*other.name, other_access) if access == WRITE else (*one.name, access)
                is_behind = array in mixed and read[0] >= mixed[array]
                if read[2] != WRITE and not is_behind and read not in told:
                    if self.machine_of(couple, meeting) is not None:
                        told.append(read)
        return told


def last_loop(couple):
    return max(couple[0].name[0], couple[1].name[0])


def stands_of(rewriting):
    told = []
    for place, loop in enumerate(rewriting.before.loops):
        for number in range(len(loop.statements)):
            for stand in stands_for(rewriting, place, number):
                told.append(Stand(rewriting, (place, number), stand))
    return told


def turned_gap(rewriting, one, other):
    """The gap k - i of works that change places: that of one at i comes first before, that of other at k after.

    None if there is none.
    """
    before = gap_ahead(rewriting.before, other.name, one.name)
    after = gap_ahead(rewriting.after, one.place, other.place)
    if before is None or after is None:
        return None
    shift = other.shift - one.shift
    least = [-bound for bound in before[1:] if bound is not None] + [b + shift for b in after[:1] if b is not None]
    most = [-bound for bound in before[:1] if bound is not None] + [b + shift for b in after[1:] if b is not None]
    gap = (max(least, default=None), min(most, default=None))
    return None if has_no_gap(gap, gap_steps(rewriting, one, other)) else gap


def gap_steps(rewriting, one, other):
    """Pairs (step, rest) that all gaps keep to, as counters of one loop go by its steps."""
    told = []
    if one.name[0] == other.name[0]:
        told.append((rewriting.before.loops[one.name[0]].step, 0))
    if one.place[0] == other.place[0]:
        told.append((one.loop.step, other.shift - one.shift))
    return told


def has_no_gap(gap, steps):
    least, most = gap
    if least is None or most is None or most - least > FAR_GAP:
        return False
    return not any([all([(d - rest) % step == 0 for step, rest in steps]) for d in range(least, most + 1)])


def all_places(program, name):
    """For each access of a statement (access, array, place); that of the write is told as WRITE."""
    many = len(program.loops[name[0]].statements[name[1]].reads)
    told = []
    for access in range(many + 1):
        array, place = place_of_access(program, (name[0], name[1], access))
        told.append((access if access < many else WRITE, array, place))
    return told


def first_turned(rewriting):
    """(n, first, second) of the least size: the first work, and the first one that meets it and comes ahead of it."""
    found = Turnings(rewriting).pairs()
    if not found:
        return None
    program = rewriting.before
    n = least_size([machine for _, _, machine in found])
    firsts = [(one[0], one[1], 0, machine) for one, _, machine in found]
    loop, counter, statement, _ = first_at(program, n, firsts)
    behind = []
    for one, other, machine in found:
        if one == (loop, statement):
            behind.append((other[0], other[1], 0, put_machine(machine, 1, counter)))
    return n, (loop, counter, statement), first_at(program, n, behind)[:3]
