"""Works that meet and are turned about by a rewriting, told by machines.

The rows are (n, i, k): i is the counter of the work that comes first in the program before, k that of the later one,
which comes first in the program after.
"""

from loopsize.conditionsets import in_all
from loopsize.cuts import left_machine, put_machine
from loopsize.machines import widened_machine
from loopsize.relations import gap_ahead, gap_machine, meeting_machine, place_of_access
from loopsize.rewriting import stands_for
from loopsize.shifts import first_at, least_size, moved_machine
from loopsize.sources import in_any, is_empty
from loopsize.workmachines import work_machine

FAR_GAP = 600


class Stand:
    """A statement of the program after, with the counters of the one of the program before for which it stands."""

    def __init__(self, rewriting, name, stand):
        self.name = name
        self.place = stand[:2]
        self.shift = stand[2]
        self.loop = rewriting.after.loops[stand[0]]
        self.works = []

    def wide_works(self, place):
        """The machine of the works (n, i), with any number put in at the place 1 or 2."""
        if not self.works:
            own = moved_machine(work_machine(self.loop, self.loop.statements[self.place[1]]), 1, self.shift)
            self.works.extend([widened_machine(own, 1), widened_machine(own, 2)])
        return self.works[place - 1]


class Turnings:
    """Tells of a rewriting which works meet and change places."""

    def __init__(self, rewriting):
        self.rewriting = rewriting
        self.stands = stands_of(rewriting)
        self.meetings = {}

    def meeting_of(self, one, other, array):
        """The machine of the rows (n, i, k) at which two statements meet, in one array or, for None, in any; None if
        they do not touch it."""
        key = (one, other, array)
        if key not in self.meetings:
            found = []
            for name, place, other_place in meeting_places(self.rewriting.before, one, other):
                if array is None or name == array:
                    found.append(meeting_machine(place, other_place))
            self.meetings[key] = in_any(found) if found else None
        return self.meetings[key]

    def machine_of(self, one, other, array):
        """The machine of the rows (n, i, k) of two stands that meet and change places; None if it has no rows."""
        gap = turned_gap(self.rewriting, one, other)
        meeting = None if gap is None else self.meeting_of(one.name, other.name, array)
        if meeting is None:
            return None
        told = in_all([gap_machine(gap), meeting, one.wide_works(2), other.wide_works(1)])
        return None if is_empty(told) else told

    def pairs(self):
        """(name, other name, machine) for all stands of which works meet and change places."""
        told = []
        for one in self.stands:
            for other in self.stands:
                machine = self.machine_of(one, other, None)
                if machine is not None:
                    told.append((one.name, other.name, machine))
        return told

    def is_turned(self, array):
        """Whether works meet and change places in one array or, for None, in any one."""
        for one in self.stands:
            for other in self.stands:
                if self.machine_of(one, other, array) is not None:
                    return True
        return False


def stands_of(rewriting):
    told = []
    for place, loop in enumerate(rewriting.before.loops):
        for number in range(len(loop.statements)):
            for stand in stands_for(rewriting, place, number):
                told.append(Stand(rewriting, (place, number), stand))
    return told


def turned_gap(rewriting, one, other):
    """The gap k - i of works that change places: that of one at i comes first before, that of other at k after.

    None if there is none.
    """
    before = gap_ahead(rewriting.before, other.name, one.name)
    after = gap_ahead(rewriting.after, one.place, other.place)
    if before is None or after is None:
        return None
    shift = other.shift - one.shift
    least = [-bound for bound in before[1:] if bound is not None] + [b + shift for b in after[:1] if b is not None]
    most = [-bound for bound in before[:1] if bound is not None] + [b + shift for b in after[1:] if b is not None]
    gap = (max(least, default=None), min(most, default=None))
    return None if has_no_gap(gap, gap_steps(rewriting, one, other)) else gap


def gap_steps(rewriting, one, other):
    """Pairs (step, rest) that all gaps keep to, as counters of one loop go by its steps."""
    told = []
    if one.name[0] == other.name[0]:
        told.append((rewriting.before.loops[one.name[0]].step, 0))
    if one.place[0] == other.place[0]:
        told.append((one.loop.step, other.shift - one.shift))
    return told


def has_no_gap(gap, steps):
    least, most = gap
    if least is None or most is None or most - least > FAR_GAP:
        return False
    return not any([all([(d - rest) % step == 0 for step, rest in steps]) for d in range(least, most + 1)])


def meeting_places(program, one, other):
    """For each two accesses of two statements that touch one array, one of them a write: (array, place, place)."""
    accesses = [all_places(program, name) for name in (one, other)]
    told = []
    for at, (array, place) in enumerate(accesses[0]):
        for to, (other_array, other_place) in enumerate(accesses[1]):
            is_write = at + 1 == len(accesses[0]) or to + 1 == len(accesses[1])
            if array == other_array and is_write:
                told.append((array, place, other_place))
    return told


def all_places(program, name):
    many = len(program.loops[name[0]].statements[name[1]].reads)
    return [place_of_access(program, (name[0], name[1], access)) for access in range(many + 1)]


def turned_arrays(rewriting):
    """The arrays in which works meet and change places."""
    turnings = Turnings(rewriting)
    return [array for array in rewriting.before.arrays if turnings.is_turned(array)]


def first_turned(rewriting):
    """(n, first, second) of the least size: the first work, and the first one that meets it and comes ahead of it."""
    found = Turnings(rewriting).pairs()
    if not found:
        return None
    program = rewriting.before
    n = least_size([machine for _, _, machine in found])
    firsts = [(one[0], one[1], 0, left_machine(machine, 2)) for one, _, machine in found]
    loop, counter, statement, _ = first_at(program, n, firsts)
    behind = []
    for one, other, machine in found:
        if one == (loop, statement):
            behind.append((other[0], other[1], 0, put_machine(machine, 1, counter)))
    return n, (loop, counter, statement), first_at(program, n, behind)[:3]
