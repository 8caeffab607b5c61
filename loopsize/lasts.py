"""What stays in the cells: the last works that write them."""

from loopsize.checks import check_array, check_read, check_size, check_statement, statement_at
from loopsize.conditionsets import in_all
from loopsize.cuts import left_machine
from loopsize.digitsets import set_without
from loopsize.errors import BadNumber, NoWork
from loopsize.kinds import is_integer
from loopsize.machines import full_machine, widened_machine
from loopsize.relations import value_machine
from loopsize.remainders import remaining_set
from loopsize.sources import is_empty, sources_for, without_all, writers_of
from loopsize.turnsets import done_turns, is_done_in, last_of_turns
from loopsize.works import turn_of_work


def stays(program, writer):
    """All (n, i) at which no work behind that of writer at i writes the same cell."""
    check_statement(program, writer[0], writer[1])
    sources = sources_for(program)
    return remaining_set(sources.works_of(tuple(writer)), later_parts(sources, tuple(writer)), 1)


def later_parts(sources, writer):
    """Machines of rows (n, k, i) at which a later work at k writes the cell of that of writer at i."""
    array = statement_at(sources.program, writer[0], writer[1]).array
    told = []
    for loop, statement in writers_of(sources.program, array):
        access = (loop, statement, len(statement_at(sources.program, loop, statement).reads))
        if not is_empty(sources.candidates(access, writer)):
            told.append(sources.candidates(access, writer))
    return told


def later_writes(sources, writer):
    """Machines of pairs (n, i) at which some later work writes the cell of that of writer at i."""
    return [left_machine(part, 1) for part in later_parts(sources, writer)]


def staying(sources, writer):
    """The machine of the works (n, i) of a writer that stay."""
    return without_all(sources.works_of(writer), later_writes(sources, writer))


def last_works(program, writer):
    """All (n, c, i) at which the work of writer at i is the last one to write the cell c."""
    check_statement(program, writer[0], writer[1])
    sources = sources_for(program)
    cell = statement_at(program, writer[0], writer[1]).cell
    writes = in_all([value_machine(cell), sources.wide_works(tuple(writer), 1)])
    return set_without(writes, [widened_machine(later, 1) for later in later_writes(sources, tuple(writer))])


def untouched(program, array):
    """All (n, c) at which no work writes the cell c of the array."""
    check_array(program, array)
    sources = sources_for(program)
    written = []
    for writer in writers_of(program, array):
        cell = statement_at(program, writer[0], writer[1]).cell
        written.append(in_all([value_machine(cell), sources.wide_works(writer, 1)]))
    return remaining_set(full_machine(2), written, 2)


def last_at(program, n, array, cell, *, work=None):
    """The work that wrote a cell last at a size, among those ahead of work if it is not None; None if none did."""
    check_array(program, array)
    check_size(n)
    if not is_integer(cell):
        raise BadNumber("cell", cell)
    if work is None:
        return last_ahead(program, n, array, cell, (len(program.loops), 0, 0))
    turn = turn_of_work(program, n, work)
    if turn is None:
        raise NoWork(work)
    return last_ahead(program, n, array, cell, (work[0], turn, work[2]))


def last_ahead(program, n, array, cell, end):
    """The last work that writes a cell ahead of the statement in a turn of a loop: end is (loop, turn, statement)."""
    for loop in reversed(range(min(end[0] + 1, len(program.loops)))):
        found = []
        for statement, written in enumerate(program.loops[loop].statements):
            if written.array == array:
                last = program.loops[loop].many_turns(n) - 1
                if loop == end[0]:
                    last = end[1] if statement < end[2] else end[1] - 1
                turn = last_turn_writing(program.loops[loop], written, n, cell, last)
                if turn is not None:
                    found.append((turn, statement))
        if found:
            turn, statement = max(found)
            return loop, program.loops[loop].counter_of(n, turn), statement
    return None


def last_turn_writing(loop, statement, n, cell, last):
    """The last turn, up to a given one, in which a statement writes a cell; None if there is none."""
    turns = done_turns(loop, statement.conditions, n)
    straight = statement.cell
    wanted = cell - straight(0, n)
    if straight.i == 0:
        return last_of_turns(turns, last) if wanted == 0 else None
    if wanted % straight.i != 0:
        return None
    turn = loop.turn_of(n, wanted // straight.i)
    return turn if turn is not None and turn <= last and is_done_in(turns, turn) else None


def source_at(program, n, read, j):
    """The source of a read at the counter j at a size: a work, or None for the input."""
    check_read(program, read)
    check_size(n)
    loop, statement, number = read
    turn = turn_of_work(program, n, (loop, j, statement)) if is_integer(j) else None
    if turn is None:
        raise NoWork((loop, j, statement))
    taken = statement_at(program, loop, statement).reads[number]
    return last_ahead(program, n, taken.array, taken.place(j, n), (loop, turn, statement))
