"""Works that meet and are turned about by a rewriting, told by machines.

The rows are (n, i, k): i is the counter of the work that comes first in the program before, k that of the later one,
which comes first in the program after.
"""

from loopsize.conditionsets import in_all
from loopsize.machines import BOTH, joined_freely, widened_machine
from loopsize.relations import ANY_GAP, common_gap, gap_ahead, gap_machine, has_no_gap, meeting_gap, meeting_machine
from loopsize.relations import place_of_access
from loopsize.rewriting import stands_for
from loopsize.shifts import first_at, least_size, moved_machine
from loopsize.workmachines import work_machine

TOP_LOOP = 6
WRITE = -1


class Stand:
    """A statement of the program after, with the counters of the one of the program before for which it stands."""

    def __init__(self, rewriting, name, stand):
        self.name = name
        self.place = stand[:2]
        self.shift = stand[2]
        self.loop = rewriting.after.loops[stand[0]]
        self.works = {}

    def wide_works(self, place):
        """The machine of the works (n, i), with any number put in at the place 1 or 2."""
        if not self.works:
            own = work_machine(self.loop, self.loop.statements[self.place[1]])
            self.works[0] = moved_machine(own, 1, self.shift)
        if place not in self.works:
            self.works[place] = widened_machine(self.works[0], place)
        return self.works[place]


class Meeting:
    """Two accesses of two stands that may be of one cell, and change places. The gap is that of their counters; if it
    does not tell all, parts has the machine of the rows (n, i, k) at which they are of one cell."""

    def __init__(self, one, other, accesses, array, gap, parts):
        self.one = one
        self.other = other
        self.accesses = accesses
        self.array = array
        self.gap = gap
        self.parts = parts
        self.told = []

    def machine(self):
        """A machine of the rows (n, i, k) at which they meet and change places, None if it has no rows; it may have
        more states than are needed."""
        if not self.told:
            order = [] if self.gap == ANY_GAP else [gap_machine(self.gap)]
            told = self.one.wide_works(2)
            if order + self.parts:
                told = joined_freely(in_all(order + self.parts), told, BOTH)
            rows, ends = joined_freely(told, self.other.wide_works(1), BOTH)
            self.told.append((rows, ends) if True in ends else None)
        return self.told[0]

    def is_met(self):
        return self.machine() is not None

    def last_loop(self):
        """The first loop of the program before by which both accesses can be done."""
        return max(self.one.name[0], self.other.name[0])


class Turnings:
    """Tells of a rewriting which works meet and change places."""

    def __init__(self, rewriting):
        self.rewriting = rewriting
        self.cells = {}
        self.meetings = []
        stands = stands_of(rewriting)
        for one in stands:
            for other in stands:
                gap = turned_gap(rewriting, one, other)
                if gap is not None:
                    self.meetings.extend(self.meetings_of(one, other, gap))

    def meetings_of(self, one, other, gap):
        """The meetings of two stands that change places with a gap."""
        told = []
        steps = gap_steps(self.rewriting, one, other)
        for accesses, array, near, parts in self.cells_of(one.name, other.name):
            both = common_gap(gap, near)
            if not has_no_gap(both, steps):
                told.append(Meeting(one, other, accesses, array, both, parts))
        return told

    def cells_of(self, one, other):
        """For two accesses each of two statements that touch one array, one of them a write: tuples (accesses, array,
        gap, parts) as a meeting has them."""
        if (one, other) not in self.cells:
            told = []
            for access, array, place in all_places(self.rewriting.before, one):
                for other_access, other_array, other_place in all_places(self.rewriting.before, other):
                    if array == other_array and WRITE in (access, other_access):
                        near = meeting_gap(place, other_place)
                        parts = [meeting_machine(place, other_place)] if near is None else []
                        told.append(((access, other_access), array, near or ANY_GAP, parts))
            self.cells[(one, other)] = told
        return self.cells[(one, other)]

    def pairs(self):
        """All meetings at which works meet and change places."""
        return [meeting for meeting in self.meetings if meeting.is_met()]

    def is_turned(self):
        """Whether any works meet and change places."""
        for meeting in self.meetings:
            if meeting.is_met():
                return True
        return False

    def mixed_arrays(self):
        """The arrays of which two writes of one cell change places: a dict with, for each of them, the first loop of
        the program before by which both writes can be done."""
        told = {}
        for meeting in self.meetings:
            if meeting.accesses == (WRITE, WRITE) and meeting.last_loop() < told.get(meeting.array, TOP_LOOP):
                if meeting.is_met():
                    told[meeting.array] = meeting.last_loop()
        return told

    def moved_reads(self, mixed):
        """The reads that change places with a write of their cell, but for those behind writes that do so."""
        told = []
        for meeting in self.meetings:
            read = read_of(meeting)
            is_behind = read is None or meeting.array in mixed and read[0] >= mixed[meeting.array]
            if not is_behind and read not in told and meeting.is_met():
                told.append(read)
        return told


def read_of(meeting):
    """The read of a meeting, None if both accesses are writes."""
    access, other_access = meeting.accesses
    if access != WRITE:
        return (*meeting.one.name, access)
    return None if other_access == WRITE else (*meeting.other.name, other_access)


def turnings_of(rewriting):
    if "turnings" not in rewriting.known:
        rewriting.known["turnings"] = Turnings(rewriting)
    return rewriting.known["turnings"]


def stands_of(rewriting):
    told = []
    for place, loop in enumerate(rewriting.before.loops):
        for number in range(len(loop.statements)):
            for stand in stands_for(rewriting, place, number):
                told.append(Stand(rewriting, (place, number), stand))
    return told


def turned_gap(rewriting, one, other):
    """The gap k - i of works that change places: that of one at i comes first before, that of other at k after.

    None if there is none.
    """
    before = gap_ahead(rewriting.before, other.name, one.name)
    after = gap_ahead(rewriting.after, one.place, other.place)
    if before is None or after is None:
        return None
    shift = other.shift - one.shift
    turned = tuple([None if bound is None else -bound for bound in before[::-1]])
    gap = common_gap(turned, tuple([None if bound is None else bound + shift for bound in after]))
    return None if has_no_gap(gap, gap_steps(rewriting, one, other)) else gap


def gap_steps(rewriting, one, other):
    """Pairs (step, rest) that all gaps keep to, as counters of one loop go by its steps."""
    told = []
    if one.name[0] == other.name[0]:
        told.append((rewriting.before.loops[one.name[0]].step, 0))
    if one.place[0] == other.place[0]:
        told.append((one.loop.step, other.shift - one.shift))
    return told


def all_places(program, name):
    """For each access of a statement (access, array, place); that of the write is told as WRITE."""
    many = len(program.loops[name[0]].statements[name[1]].reads)
    told = []
    for access in range(many + 1):
        array, place = place_of_access(program, (name[0], name[1], access))
        told.append((access if access < many else WRITE, array, place))
    return told


def first_turned(rewriting):
    """(n, first, second) of the least size: the first work, and the first one that meets it and comes ahead of it."""
    found = turnings_of(rewriting).pairs()
    if not found:
        return None
    program = rewriting.before
    n = least_size([meeting.machine() for meeting in found])
    firsts = [(*meeting.one.name, 0, meeting.machine()) for meeting in found]
    loop, counter, statement, _ = first_at(program, [n], firsts)
    behind = []
    for meeting in found:
        if meeting.one.name == (loop, statement):
            behind.append((*meeting.other.name, 0, meeting.machine()))
    return n, (loop, counter, statement), first_at(program, [n, counter], behind)[:3]
