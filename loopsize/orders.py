"""What a rewriting loses, and what it turns about."""

from loopsize.conditionsets import joined_at_last
from loopsize.errors import NotWhole
from loopsize.machines import BOTH, EITHER, UNLIKE, empty_machine, joined, joined_freely
from loopsize.rewriting import stands_for
from loopsize.shifts import first_at, least_size, moved_machine
from loopsize.sources import is_empty
from loopsize.touches import key_of_condition
from loopsize.turnings import first_turned, turnings_of
from loopsize.workmachines import work_machines

MANY_STANDS = 3


def lost_work(rewriting):
    """(n, work) for the first tuple that is not stood for as it should be at the least size; None if it is whole."""
    if "lost" not in rewriting.known:
        rewriting.known["lost"] = first_lost(rewriting)
    return rewriting.known["lost"]


def first_lost(rewriting):
    """The same, found out."""
    found = []
    for place, loop in enumerate(rewriting.before.loops):
        for number in range(len(loop.statements)):
            stands = stands_for(rewriting, place, number)
            if not is_plainly_once(rewriting, place, number, stands):
                machine = lost_machine(rewriting, place, number, stands)
                if True in machine[1]:
                    found.append((place, number, 0, machine))
    if not found:
        return None
    n = least_size([entry[3] for entry in found])
    return n, first_at(rewriting.before, [n], found)[:3]


def is_plainly_once(rewriting, place, number, stands):
    """Whether it is seen at once that each work is stood for just once: by a statement with the same turns and
    conditions, or by some with all rests of the counter ahead of these."""
    before = rewriting.before.loops[place]
    for loop, _, shift in stands:
        after = rewriting.after.loops[loop]
        if shift != 0 or after.step != before.step or after.low != before.low or after.high != before.high:
            return False
    checks = checks_of(before.statements[number])
    there = [checks_of(rewriting.after.loops[loop].statements[other]) for loop, other, _ in stands]
    many = len(stands)
    wanted = [checks] if many == 1 else [[(1, 0, 0, many, rest), *checks] for rest in range(many)]
    return many > 0 and sorted(there) == wanted


def checks_of(statement):
    return [key_of_condition(condition) for condition in statement.conditions]


def lost_machine(rewriting, place, number, stands):
    """The pairs (n, i) that are works and not stood for just once, or none and stood for. There may be more states
    than are needed: few machines are joined here, and those of turns go the same way, so there are not many more."""
    once = None
    twice = empty_machine(2)
    for loop, statement, shift in stands:
        after = rewriting.after.loops[loop]
        works = moved_machine(works_freely(after, after.statements[statement]), 1, shift)
        if once is None:
            once = works
        else:
            again = joined_freely(once, works, BOTH)
            if True in again[1]:
                twice = joined(twice, again, EITHER)
            once = joined_freely(once, works, EITHER) if len(stands) < MANY_STANDS else joined(once, works, EITHER)
    before = rewriting.before.loops[place]
    works = works_freely(before, before.statements[number])
    unlike = works if once is None else joined_freely(works, once, UNLIKE)
    return unlike if is_empty(twice) else joined_freely(unlike, twice, EITHER)


def works_freely(loop, statement):
    return joined_at_last(work_machines(loop, statement), BOTH)


def is_whole(rewriting):
    return lost_work(rewriting) is None


def check_whole(rewriting):
    lost = lost_work(rewriting)
    if lost is not None:
        raise NotWhole(lost[0], lost[1])


def turned_pair(rewriting):
    """(n, first, second) for the first two works that meet and change places at the least size; None if none do."""
    check_whole(rewriting)
    return first_turned(rewriting)


def is_let(rewriting):
    """Whether the rewriting is whole and keeps the order."""
    return is_whole(rewriting) and not turnings_of(rewriting).is_turned()
