"""Turns of a loop that touch, and how far they are from one another."""

from math import gcd

from loopsize.checks import check_loop, check_size
from loopsize.conditionsets import between_machine
from loopsize.cuts import left_machine
from loopsize.digitsets import told_set
from loopsize.guesses import Guesses
from loopsize.lanerows import rows_of_lanes
from loopsize.layers import Layers
from loopsize.machines import BOTH, EITHER, FIRST_ALONE, empty_machine, joined, joined_freely, minimal
from loopsize.machines import reordered_machine, widened_machine
from loopsize.searches import least_first
from loopsize.remainders import united_set
from loopsize.sources import sources_for
from loopsize.sumsat import SumsAt
from loopsize.touches import touching_parts


def parts_of(program, loop):
    return touching_parts(sources_for(program), loop, loop)


def touching(program, loop):
    """All (n, i, j) with i < j such that the turns at i and j touch."""
    check_loop(program, loop)
    return united_set(3, parts_of(program, loop))


def with_gap(program, loop, part):
    """The rows (n, i, j, gap) of a machine of rows (n, i, j); there may be more states than are needed."""
    step = program.loops[loop].step
    return joined_freely(widened_machine(part, 3), between_machine((0, -1, 1, -step), 0, 0), BOTH)


def gaps(program, loop):
    """The gaps of all turns that touch."""
    check_loop(program, loop)
    far = between_machine((-1, 1, -program.loops[loop].step), 0, 0)
    told = empty_machine(1)
    for part in parts_of(program, loop):
        # Most is settled by the counters alone, so the size is left out ahead of them.
        pairs = widened_machine(left_machine(part, 0), 2)
        known = joined_freely(far, widened_machine(widened_machine(told, 0), 0), FIRST_ALONE)
        part = joined_freely(pairs, known, BOTH)
        if True in part[1]:
            rows, ends = Guesses([part], (2,)).machine()
            told = joined(told, minimal(rows, ends), EITHER)
    return told_set(told)


def gaps_at(program, loop, n):
    """The same at one size."""
    check_loop(program, loop)
    check_size(n)
    told = empty_machine(1)
    for part in parts_of(program, loop):
        # Gaps of one kind follow few ways, those of several kinds together very many.
        rows, ends = SumsAt([(Layers(part, n), (-1, 1), 0)], program.loops[loop].step).machine()
        told = joined(told, minimal(rows, ends), EITHER)
    return told_set(told)


def least_gap(program, loop):
    """The least gap of all, 0 if there is none."""
    check_loop(program, loop)
    found = []
    for part in parts_of(program, loop):
        found.append(least_first(reordered_machine(with_gap(program, loop, part), (3, 0, 1, 2))))
    return min(found, default=0)


def lanes(program, loop):
    """The greatest common divisor of all gaps, 0 if there is none."""
    check_loop(program, loop)
    told = 0
    for part in parts_of(program, loop):
        for _, i, j in rows_of_lanes(part):
            told = gcd(told, j - i)
    return told // program.loops[loop].step


def least_gap_at(program, loop, n):
    """The least gap at one size, 0 if there is none."""
    check_loop(program, loop)
    check_size(n)
    found = [Layers(part, n).greatest_sum((1, -1)) for part in parts_of(program, loop)]
    return min([-most for most in found if most is not None], default=0) // program.loops[loop].step


def lanes_at(program, loop, n):
    """The greatest common divisor of the gaps at one size, 0 if there is none."""
    check_loop(program, loop)
    check_size(n)
    told = 0
    for part in parts_of(program, loop):
        told = gcd(told, Layers(part, n).divisor_of_sums((-1, 1)))
    return told // program.loops[loop].step


def lane_pairs(program, loop):
    """Rows of touching whose gaps have the greatest common divisor of all; no rows if there is no gap."""
    check_loop(program, loop)
    rows = []
    for part in parts_of(program, loop):
        rows.extend(rows_of_lanes(part))
    told = []
    divisor = 0
    # Each row but the first one halves the divisor at least, so a first one with a small gap makes few of them.
    for row in sorted(rows, key=gap_of_row):
        common = gcd(divisor, gap_of_row(row))
        if common != divisor:
            divisor = common
            told.append(row)
    return tuple(told)


def gap_of_row(row):
    return row[2] - row[1]
