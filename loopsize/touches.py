"""Which turns touch, told by machines of rows (n, i, j): a work at i and one at j are of one cell, and one of them at
least writes it."""

from loopsize.conditions import Rest
from loopsize.conditionsets import in_all
from loopsize.machines import BOTH, empty_machine, joined
from loopsize.relations import ANY_GAP, common_gap, gap_machine, has_no_gap, meeting_gap, meeting_machine
from loopsize.relations import place_of_access
from loopsize.sources import is_empty


class Touch:
    """The accesses of a place by statements with the same conditions; name is that of one of these statements."""

    def __init__(self, name, array, place):
        self.name = name
        self.array = array
        self.place = place
        self.writes = False


def key_of_place(place):
    straight = place.straight
    return straight.i, straight.n, straight.one, place.divisor


def key_of_condition(condition):
    straight = condition.straight
    key = (straight.i, straight.n, straight.one)
    return (*key, condition.modulus, condition.rest) if isinstance(condition, Rest) else key


def touches_of(program, loop):
    """The accesses of a loop; those that are alike are told once."""
    told = {}
    for number, statement in enumerate(program.loops[loop].statements):
        checks = tuple([key_of_condition(condition) for condition in statement.conditions])
        for access in range(len(statement.reads) + 1):
            array, place = place_of_access(program, (loop, number, access))
            touch = told.setdefault((checks, array, key_of_place(place)), Touch((loop, number), array, place))
            touch.writes = touch.writes or access == len(statement.reads)
    return list(told.values())


def meetings(program, loop, other):
    """All couples of accesses of two loops of which one writes, and both are of one array."""
    told = []
    others = touches_of(program, other)
    for one in touches_of(program, loop):
        for two in others:
            if one.array == two.array and (one.writes or two.writes):
                told.append((one, two))
    return told


def touching_parts(sources, loop, other):
    """Machines of the rows (n, i, j) at which the turn of a loop at i and that of another loop at j touch; of one loop
    those with i < j alone."""
    key = ("touching", loop, other)
    if key not in sources.told:
        told = []
        for one, two in meetings(sources.program, loop, other):
            machine = touching_machine(sources.program, one, two)
            if not is_empty(machine):
                machine = in_all([machine, sources.wide_works(one.name, 2), sources.wide_works(two.name, 1)])
                if not is_empty(machine):
                    told.append(machine)
        sources.told[key] = told
    return sources.told[key]


def touching_machine(program, one, two):
    """The rows (n, i, j) at which two accesses are of one cell, and in one loop i < j."""
    loop = one.name[0]
    order = (1, None) if loop == two.name[0] else ANY_GAP
    near = meeting_gap(one.place, two.place)
    if near is None:
        machine = meeting_machine(one.place, two.place)
        return machine if order == ANY_GAP else joined(machine, gap_machine(order), BOTH)
    gap = common_gap(order, near)
    steps = [] if order == ANY_GAP else [(program.loops[loop].step, 0)]
    return empty_machine(3) if has_no_gap(gap, steps) else gap_machine(gap)
