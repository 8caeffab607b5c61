"""The turns of a loop at which a statement is done at one size, however great, told without going through them.

They are (low, high, rests): the turns from low to high whose remainder by CYCLE is one of the rests. Steps do not
matter for turns, and all moduli of conditions divide CYCLE.
"""

from loopsize.conditions import Rest

CYCLE = 12


def done_turns(loop, conditions, n):
    """The turns at which all of some conditions hold."""
    low = 0
    high = loop.many_turns(n) - 1
    if high < 0:
        return low, high, ()
    first = loop.counter_of(n, 0)
    stride = -loop.step if loop.down else loop.step
    rests = list(range(CYCLE))
    for condition in conditions:
        if isinstance(condition, Rest):
            rests = [turn for turn in rests if condition.holds(first + stride * turn, n)]
        else:
            straight = condition.straight
            low, high = narrowed(low, high, straight(first, n), straight.i * stride)
    return (low, high, tuple(rests)) if rests else (0, -1, ())


def narrowed(low, high, start, growth):
    """The turns from low to high at which start + growth * turn is 0 or more: (low, high)."""
    if growth > 0:
        return max(low, -(start // growth)), high
    if growth < 0:
        return low, min(high, start // -growth)
    return (low, high) if start >= 0 else (0, -1)


def is_done_in(turns, turn):
    low, high, rests = turns
    return low <= turn <= high and turn % CYCLE in rests


def many_before(turns, turn):
    """How many of the turns are below the given one."""
    low, high, rests = turns
    whole, part = divmod(min(turn, high + 1) - low, CYCLE)
    if whole < 0:
        return 0
    return whole * len(rests) + sum([1 for rest in rests if (rest - low) % CYCLE < part])


def many_of(turns):
    return many_before(turns, turns[1] + 1)


def next_of_turns(turns, turn):
    """The least of the turns that is not below the given one, None if there is none."""
    low, high, rests = turns
    start = max(turn, low)
    found = min([start + (rest - start) % CYCLE for rest in rests], default=None)
    return found if found is not None and found <= high else None


def last_of_turns(turns, turn):
    """The greatest of the turns that is not above the given one, None if there is none."""
    low, high, rests = turns
    start = min(turn, high)
    found = max([start - (start - rest) % CYCLE for rest in rests], default=None)
    return found if found is not None and found >= low else None
