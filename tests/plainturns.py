"""What turns of loops do, told by plain logs: which cells they touch, and what hangs on their order."""

from loopsize.runs import log_program
from tests.samples import accesses_of, statement_of


def counters_of(loop, n):
    """The counters of a loop in its order."""
    return [loop.counter_of(n, turn) for turn in range(loop.many_turns(n))]


def cells_of_turns(program, n, loop):
    """For each counter of a loop the cells that its turn touches, and those that it writes."""
    told = {i: (set(), set()) for i in counters_of(program.loops[loop], n)}
    for work in log_program(program, n).works:
        if work[0] == loop:
            cells = accesses_of(program, work, n)
            told[work[1]][0].update(cells)
            told[work[1]][1].add(cells[-1])
    return told


def do_touch(one, other):
    return bool(one[1] & other[0] or other[1] & one[0])


def plain_touching(program, n, loop):
    """The pairs (i, j) with i < j whose turns touch."""
    cells = cells_of_turns(program, n, loop)
    touched = {}
    for i in cells:
        for cell in cells[i][0]:
            touched.setdefault(cell, []).append(i)
    return {(min(i, j), max(i, j)) for i in cells for cell in cells[i][1] for j in touched[cell] if i != j}


def bare_cells(program, n, loop):
    """For each counter the cells that are read without an earlier write of the same turn."""
    told = {i: set() for i in counters_of(program.loops[loop], n)}
    written = {i: set() for i in told}
    for work in log_program(program, n).works:
        if work[0] == loop:
            cells = accesses_of(program, work, n)
            told[work[1]].update(cell for cell in cells[:-1] if cell not in written[work[1]])
            written[work[1]].add(cells[-1])
    return told


def counting_cells(program, n, loop, wanted):
    """The cells that count behind a loop."""
    log = log_program(program, n)
    last = {}
    for work, written in zip(log.works, log.writes):
        if work[0] == loop:
            last[written] = work
    told = set()
    for work, taken in zip(log.works, log.takes):
        for array, cell, source in taken:
            if work[0] > loop and source is not None and last.get((array, cell)) == source:
                told.add((array, cell))
    for array, cell in last:
        if log.last_writer(array, cell) == last[array, cell] and (wanted is None or array in wanted):
            told.add((array, cell))
    return told


def plain_conflicts(program, n, loop, grade, wanted=None):
    """The pairs (i, j) with i < j whose turns are in conflict."""
    if grade == "strict":
        return plain_touching(program, n, loop)
    if grade == "values":
        log = log_program(program, n)
        told = set()
        for work, taken in zip(log.works, log.takes):
            for _, _, source in taken:
                if work[0] == loop and source is not None and source[0] == loop and source[1] != work[1]:
                    told.add((min(work[1], source[1]), max(work[1], source[1])))
        return told
    cells = cells_of_turns(program, n, loop)
    bare = bare_cells(program, n, loop)
    counting = counting_cells(program, n, loop, wanted)
    told = set()
    for i in cells:
        for j in cells:
            if i < j and (bare[i] & cells[j][1] or bare[j] & cells[i][1] or cells[i][1] & cells[j][1] & counting):
                told.add((i, j))
    return told


def plain_fronts(program, n, loop):
    """The front of each counter of a loop."""
    cells = cells_of_turns(program, n, loop)
    told = {}
    for i in counters_of(program.loops[loop], n):
        told[i] = 1 + max([told[k] for k in told if do_touch(cells[i], cells[k])], default=0)
    return told


def sources_in_order(program, n, works):
    """From which works the reads of works take that are done in an order, and the last work of each cell."""
    last = {}
    taken = {}
    for work in works:
        cells = accesses_of(program, work, n)
        taken[work] = [last.get(cell) for cell in cells[:-1]]
        last[cells[-1]] = work
    return taken, last


def works_in_order(program, n, loop, counters):
    """All works, those of a loop by its counters in another order."""
    works = log_program(program, n).works
    told = [work for work in works if work[0] < loop]
    for i in counters:
        told.extend(work for work in works if work[:2] == (loop, i))
    return told + [work for work in works if work[0] > loop]


def kept_apart(sources, wanted):
    """What has to stay: the sources of all reads, and the last works of the wanted arrays."""
    taken, last = sources
    return taken, {cell: last[cell] for cell in last if wanted is None or cell[0] in wanted}


def value_in_order(program, n, works, start):
    """What the cells hold behind works that are done in an order; start(array, cell) tells what they hold at first."""
    held = {}
    for work in works:
        statement = statement_of(program, work)
        value = statement.constant
        for read in statement.reads:
            key = (read.array, read.place(work[1], n))
            value += read.factor * held.get(key, start(*key))
        held[statement.array, statement.cell(work[1], n)] = value % 1000003
    return held
