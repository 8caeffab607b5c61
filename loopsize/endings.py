"""Where the paths of values through copies end, told by machines for all sizes at once.

The works of a path fall into stretches. A stretch of a copy that takes from its own works, always from as many
counters away, is as long as these works follow one another: so it goes to the nearest work that takes from elsewhere.
"""

from loopsize.checks import statement_at
from loopsize.conditionsets import between_machine, in_all, least_machine, rest_machine
from loopsize.copies import is_copy
from loopsize.cuts import left_machine
from loopsize.earlypaths import FEW_TURNS, EarlyPaths
from loopsize.errors import Deep
from loopsize.machines import BOTH, EITHER, FIRST_ALONE, empty_machine, joined, joined_freely, widened_machine
from loopsize.relations import constant_difference
from loopsize.searches import least_row
from loopsize.sources import is_empty, sources_for, without_all

MOST_STRETCHES = 4
MANY_STATES = 50
MANY_LONG = 1000
MANY_TURNS = 100000


class Endings:
    """Tells of a program how its paths go on. It keeps what it has told."""

    def __init__(self, program):
        self.program = program
        self.sources = sources_for(program)
        self.steps = {}
        self.lasts = {}
        self.longs = {}
        self.early = None

    def steps_of(self, copy):
        """For each writer from which a copy takes the rows (n, j, i); those within a stretch are not there."""
        if copy not in self.steps:
            taken = self.sources.taken_by((*copy, 0))
            own = taken.get(copy)
            apart = None if own is None else constant_difference(own)
            if apart is not None:
                self.lasts[copy] = stretch_machine(self.sources.works_of(copy), left_machine(own, 2), apart)
            self.steps[copy] = {writer: taken[writer] for writer in taken if apart is None or writer != copy}
        return self.steps[copy]

    def last_in_stretch(self, copy, rows):
        """The rows (n, j, i) for the rows (n, j, k) of a machine such that the stretch from k on ends at i."""
        self.steps_of(copy)
        return composed_rows(rows, self.lasts[copy]) if copy in self.lasts else rows

    def long_works(self, copy, many):
        """The works (n, j) of a copy from which on a path has so many stretches, or more."""
        if many == 1:
            return self.sources.works_of(copy)
        if (copy, many) not in self.longs:
            told = empty_machine(2)
            steps = self.steps_of(copy)
            for writer in steps:
                if is_copy(self.program, writer):
                    told = joined(told, self.leading_to(steps[writer], writer, many - 1), EITHER)
            if copy in self.lasts:
                told = left_machine(joined(self.lasts[copy], widened_machine(told, 1), BOTH), 2)
            self.longs[(copy, many)] = told
        return self.longs[(copy, many)]

    def leading_to(self, rows, writer, many):
        """The pairs (n, j) of the rows (n, j, i) such that from the work of the writer at i on there are so many
        stretches."""
        return left_machine(joined_freely(rows, widened_machine(self.long_works(writer, many), 1), BOTH), 2)

    def is_laborious(self):
        """Whether the machines are so large that plain logs are worth while first."""
        many = 0
        for loop, entry in enumerate(self.program.loops):
            for number in range(len(entry.statements)):
                if is_copy(self.program, (loop, number)):
                    many += sum([len(machine[0]) for machine in list(self.steps_of((loop, number)).values())])
        return many > MANY_STATES

    def check_depth(self, first, starts):
        """Refuses paths with too many stretches. first has for writers the rows (n, j, i) of the first works; starts
        tells them for plain logs."""
        if self.is_laborious():
            self.check_small_sizes(starts, FEW_TURNS)
        copies = [writer for writer in first if is_copy(self.program, writer)]
        for many in range(2, MOST_STRETCHES + 1):
            if max([len(self.long_works(writer, many)[0]) for writer in copies], default=0) > MANY_LONG:
                # The next machines would be far larger, and most of such paths are seen.
                self.check_small_sizes(starts, MANY_TURNS)
                break
        found = []
        for writer in copies:
            row = least_row(self.leading_to(first[writer], writer, MOST_STRETCHES + 1), 2, 0)
            if row is not None:
                found.append(row)
        if found:
            raise Deep(min(found)[0], min(found)[1])

    def check_small_sizes(self, starts, many_turns):
        """Refuses paths with too many stretches that are seen in plain logs."""
        if self.early is None:
            self.early = EarlyPaths(self.program)
        found = self.early.first_deep(starts, MOST_STRETCHES, many_turns)
        if found is not None:
            raise Deep(found[0], found[1])

    def ends_from(self, first):
        """For each end a list of machines: the rows (n, j, e) such that the path of j ends there, in e."""
        told = {}
        while first:
            behind = {}
            for writer in first:
                if is_copy(self.program, writer):
                    rows = self.last_in_stretch(writer, first[writer])
                    add_input(told, rows, (*writer, 0), self)
                    for other, step in list(self.steps_of(writer).items()):
                        more = composed_rows(rows, step)
                        if not is_empty(more):
                            behind[other] = joined(behind[other], more, EITHER) if other in behind else more
                else:
                    told.setdefault(("work", *writer), []).append(first[writer])
            first = behind
        return told

    def takes_input(self, read):
        """The works (n, j) of a read that take the input."""
        return without_all(self.sources.works_of(read[:2]), self.sources.reaches_from(read, 0))


def stretch_machine(works, inner, apart):
    """The rows (n, j, i) such that the stretch from j on ends at i; inner works take from the one so far apart."""
    ends = joined(works, inner, FIRST_ALONE)
    sign = 1 if apart > 0 else -1
    alike = joined(rest_machine((0, 1, -1), abs(apart), (0,)), least_machine((0, sign, -sign), 0), BOTH)
    rows = in_all([alike, widened_machine(works, 2), widened_machine(ends, 1)])
    # Mostly a work comes to one end alone, and to leave out those behind its first one takes long.
    nearer = in_all([rows, widened_machine(ends, 2), least_machine((0, sign, -sign), 1)])
    if is_empty(nearer):
        return rows
    wide = joined_freely(widened_machine(nearer, 1), least_machine((0, sign, -sign, 0), 0), BOTH)
    return joined(rows, left_machine(wide, 2), FIRST_ALONE)


def endings_for(program):
    """What tells of a program how its paths go on, the same one each time."""
    told = sources_for(program).told
    if "endings" not in told:
        told["endings"] = Endings(program)
    return told["endings"]


def composed_rows(one, other):
    """The rows (n, j, k) such that (n, j, i) is in one machine and (n, i, k) in the other one."""
    return left_machine(joined_freely(widened_machine(one, 3), widened_machine(other, 1), BOTH), 2)


def add_input(told, rows, read, endings):
    """Puts to the ends the inputs of a read at the counters i of rows (n, j, i)."""
    inputs = endings.takes_input(read)
    if is_empty(inputs):
        return
    rows = joined(rows, widened_machine(inputs, 1), BOTH)
    for kind, cells in cells_read(endings.program, read):
        part = composed_rows(rows, cells)
        if not is_empty(part):
            array = statement_at(endings.program, read[0], read[1]).reads[read[2]].array
            told.setdefault((kind, array), []).append(part)


def cells_read(program, read):
    """For both kinds of input the rows (n, i, c) such that a read at i is of the cell c, or -c below 0."""
    place = statement_at(program, read[0], read[1]).reads[read[2]].place
    straight = place.straight
    told = []
    for kind, sign, least in (("below", 1, 1), ("input", -1, 0)):
        same = between_machine((straight.n, straight.i, sign * place.divisor), -straight.one,
                               place.divisor - 1 - straight.one)
        told.append((kind, joined(same, least_machine((0, 0, 1), least), BOTH)))
    return told
