"""What a rewriting loses, and what it turns about."""

from loopsize.errors import NotWhole
from loopsize.machines import BOTH, EITHER, UNLIKE, empty_machine, joined
from loopsize.rewriting import stands_for
from loopsize.shifts import first_at, least_size, moved_machine
from loopsize.sources import is_empty
from loopsize.turnings import Turnings, first_turned
from loopsize.workmachines import work_machine


def lost_work(rewriting):
    """(n, work) for the first tuple that is not stood for as it should be at the least size; None if it is whole."""
    found = []
    for place, loop in enumerate(rewriting.before.loops):
        for number in range(len(loop.statements)):
            machine = lost_machine(rewriting, place, number)
            if not is_empty(machine):
                found.append((place, number, 0, machine))
    if not found:
        return None
    n = least_size([entry[3] for entry in found])
    return n, first_at(rewriting.before, n, found)[:3]


def lost_machine(rewriting, place, number):
    """The pairs (n, i) that are works and not stood for just once, or none and stood for."""
    once = empty_machine(2)
    twice = empty_machine(2)
    for loop, statement, shift in stands_for(rewriting, place, number):
        after = rewriting.after.loops[loop]
        works = moved_machine(work_machine(after, after.statements[statement]), 1, shift)
        twice = joined(twice, joined(once, works, BOTH), EITHER)
        once = joined(once, works, EITHER)
    before = rewriting.before.loops[place]
    works = work_machine(before, before.statements[number])
    return joined(joined(works, once, UNLIKE), twice, EITHER)


def is_whole(rewriting):
    return lost_work(rewriting) is None


def check_whole(rewriting):
    lost = lost_work(rewriting)
    if lost is not None:
        raise NotWhole(lost[0], lost[1])


def turned_pair(rewriting):
    """(n, first, second) for the first two works that meet and change places at the least size; None if none do."""
    check_whole(rewriting)
    return first_turned(rewriting)


def is_let(rewriting):
    """Whether the rewriting is whole and keeps the order."""
    return is_whole(rewriting) and not Turnings(rewriting).is_turned()
