"""Fronts of turns that are greater than they may be, seen at small sizes by going through the turns."""

MANY_SIZES = 2000


def early_deeper(loop, most, many_turns):
    """(n, chain) of the least size at which a turn of a loop has a greater front; None if this is not seen in so many
    turns."""
    for n in range(MANY_SIZES):
        many_turns -= loop.many_turns(n)
        if many_turns < 0:
            return None
        chain = chain_of_turns(loop, n, most)
        if chain is not None:
            return n, chain
    return None


def chain_of_turns(loop, n, most):
    """Counters of turns at a size, one more than these, each of which touches the one before it; None if there are
    none."""
    fronts = {}
    ahead = {}
    written = {}
    touched = {}
    for turn in range(loop.many_turns(n)):
        counter = loop.counter_of(n, turn)
        reads, writes = cells_of_turn(loop, n, counter)
        found = [written[cell] for cell in reads if cell in written]
        found.extend([touched[cell] for cell in writes if cell in touched])
        front, ahead[counter] = max([(fronts[other], other) for other in found], default=(0, None))
        fronts[counter] = front + 1
        if front == most:
            return chain_to(ahead, counter)
        keep_greatest(touched, reads + writes, fronts, counter)
        keep_greatest(written, writes, fronts, counter)
    return None


def cells_of_turn(loop, n, counter):
    """The cells that a turn reads, and those that it writes."""
    reads = []
    writes = []
    for statement in loop.statements:
        if statement.is_done(counter, n):
            reads.extend([(read.array, read.place(counter, n)) for read in statement.reads])
            writes.append((statement.array, statement.cell(counter, n)))
    return reads, writes


def keep_greatest(told, cells, fronts, counter):
    """Keeps for cells the turn with the greatest front."""
    for cell in cells:
        if cell not in told or fronts[told[cell]] < fronts[counter]:
            told[cell] = counter


def chain_to(ahead, counter):
    told = []
    while counter is not None:
        told.append(counter)
        counter = ahead[counter]
    return tuple(told[::-1])
