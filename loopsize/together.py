"""Which turns of a loop may be done in any order, and how many have to be done one behind the other."""

from loopsize.checks import check_loop, check_size
from loopsize.clashes import free_parts, value_parts
from loopsize.cuts import left_machine, put_machine
from loopsize.digitsets import told_set
from loopsize.earlyfronts import early_deeper
from loopsize.errors import BadGrade, BadNumber, Deeper
from loopsize.kinds import is_integer_from
from loopsize.layers import has_rows_at
from loopsize.machines import BOTH, EITHER, FIRST_ALONE, empty_machine, joined, joined_freely, minimal, widened_machine
from loopsize.remainders import united_set
from loopsize.searches import least_first
from loopsize.sources import is_empty, sources_for
from loopsize.touches import touching_parts
from loopsize.workmachines import turn_machine

GRADES = ("strict", "free", "values")
MOST_FRONTS = 6
FEW_STATES = 200
MANY_STATES = 600
FEW_TURNS = 1500
MANY_TURNS = 100000


def check_grade(grade):
    if not isinstance(grade, str) or grade not in GRADES:
        raise BadGrade(grade)


def clashing_parts(program, loop, grade, wanted):
    """Machines of the rows (n, i, j) with i < j whose turns are in conflict."""
    sources = sources_for(program)
    if grade == "strict":
        return touching_parts(sources, loop, loop)
    if grade == "values":
        return value_parts(sources, loop)
    return free_parts(sources, loop, wanted)


def conflicts(program, loop, grade, *, wanted=None):
    """All (n, i, j) with i < j such that the turns at i and j are in conflict by a grade."""
    check_loop(program, loop)
    check_grade(grade)
    return united_set(3, clashing_parts(program, loop, grade, wanted))


def is_free(program, loop, grade, n, *, wanted=None):
    """Whether no turns of the loop are in conflict at a size."""
    check_loop(program, loop)
    check_size(n)
    check_grade(grade)
    return not any([has_rows_at(part, n) for part in clashing_parts(program, loop, grade, wanted)])


def fronts(program, loop, most):
    """For each front from 1 on the set of all (n, i) whose turn has it."""
    check_loop(program, loop)
    if not is_integer_from(most, 1, MOST_FRONTS):
        raise BadNumber("most", most)
    parts = touching_parts(sources_for(program), loop, loop)
    many = sum([len(part[0]) for part in parts])
    if many > FEW_STATES:
        check_small_sizes(program.loops[loop], most, FEW_TURNS if many < MANY_STATES else MANY_TURNS)
    waves = waves_of(program.loops[loop], parts, most)
    if not is_empty(waves[-1]):
        n = least_first(waves[-1])
        raise Deeper(n, chain_at(parts, waves, program.loops[loop].down, n))
    return tuple([told_set(joined(one, other, FIRST_ALONE)) for one, other in zip(waves, waves[1:])])


def check_small_sizes(loop, most, many_turns):
    """Refuses chains that are too long: most are seen at small sizes, where no large machines are needed."""
    early = early_deeper(loop, most, many_turns)
    if early is not None:
        raise Deeper(early[0], early[1])


def waves_of(loop, parts, most):
    """For each front from 1 on the turns (n, i) that have it or a greater one, up to an empty one, or to the first
    front that is too great."""
    told = [turn_machine(loop)]
    is_large = False
    while not is_empty(told[-1]) and len(told) <= most:
        if len(told[-1][0]) > MANY_STATES and not is_large:
            is_large = True
            check_small_sizes(loop, most, MANY_TURNS)
        told.append(behind_wave(parts, told[-1], loop.down))
    return told


def behind_wave(parts, wave, down):
    """The turns (n, i) that touch one of a wave that is ahead of them."""
    told = empty_machine(2)
    ahead = 2 if down else 1
    wide = widened_machine(wave, 3 - ahead)
    for part in parts:
        rows, ends = joined_freely(part, wide, BOTH)
        if True in ends:
            told = joined(told, left_machine(minimal(rows, ends), ahead), EITHER)
    return told


def chain_at(parts, waves, down, n):
    """Counters of a turn of each wave at a size that touch one another, in the order of the loop."""
    chain = [least_first(put_machine(waves[-1], 0, n))]
    there = [put_machine(part, 0, n) for part in parts]
    for wave in reversed(waves[:-1]):
        turns = put_machine(wave, 0, n)
        found = []
        for part in there:
            ahead = joined(turns, put_machine(part, 0 if down else 1, chain[-1]), BOTH)
            if not is_empty(ahead):
                found.append(least_first(ahead))
        chain.append(min(found))
    return tuple(chain[::-1])
