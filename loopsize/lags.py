"""How far the turns of a loop have to be ahead of those of the next one."""

from loopsize.checks import check_loop, check_size
from loopsize.conditionsets import between_machine
from loopsize.cuts import left_machine
from loopsize.errors import NoLag, NoLoop, Unlike
from loopsize.guesses import Guesses
from loopsize.layers import Layers
from loopsize.machines import BOTH, joined_freely, minimal, widened_machine
from loopsize.searches import greatest_in, has_finitely_many, least_first
from loopsize.sources import sources_for
from loopsize.spaces import turns_differ
from loopsize.touches import touching_parts


def check_next(program, loop):
    """Refuses loops without a next one that has the same turns."""
    if loop + 1 == len(program.loops):
        raise NoLoop(loop + 1)
    one = program.loops[loop]
    other = program.loops[loop + 1]
    if one.step != other.step or one.down != other.down or turns_differ(program, loop, program, loop + 1) is not None:
        raise Unlike(loop)


def numbers_apart(pairs, factors):
    """The machine of the numbers from 0 on that are the sum of pairs of counters times factors, over a divisor.

    factors are those of both counters and, below 0, the divisor.
    """
    rows, ends = joined_freely(widened_machine(pairs, 2), between_machine(factors, 0, 0), BOTH)
    if True not in ends:
        return None
    rows, ends = Guesses([(rows, ends)], (2,)).machine()
    return minimal(rows, ends)


def signs_of(loop):
    """The factors of the counters of both loops in a lag, times the step."""
    return (-1, 1) if loop.down else (1, -1)


def lag(program, loop):
    """The greatest lag of turns that touch, None if there are none."""
    check_loop(program, loop)
    check_next(program, loop)
    one, other = signs_of(program.loops[loop])
    step = program.loops[loop].step
    found = []
    for part in touching_parts(sources_for(program), loop, loop + 1):
        pairs = left_machine(part, 0)
        ahead = numbers_apart(pairs, (one, other, -step))
        if ahead is None:
            found.append(-least_first(numbers_apart(pairs, (-one, -other, -step))))
        elif has_finitely_many(ahead):
            found.append(greatest_in(ahead))
        else:
            raise NoLag(loop)
    return max(found, default=None)


def lag_at(program, loop, n):
    """The same at one size."""
    check_loop(program, loop)
    check_size(n)
    check_next(program, loop)
    signs = signs_of(program.loops[loop])
    found = [Layers(part, n).greatest_sum(signs) for part in touching_parts(sources_for(program), loop, loop + 1)]
    most = max([total for total in found if total is not None], default=None)
    return None if most is None else most // program.loops[loop].step
