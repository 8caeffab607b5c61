"""Programs of copies that move alike, reads that are put elsewhere, and statements that are left out."""

from loopsize.checks import check_read, check_statement, statement_at
from loopsize.copies import is_copy
from loopsize.cuts import left_machine
from loopsize.endings import endings_for
from loopsize.errors import Mixing, NotSame, Taken
from loopsize.lasts import staying
from loopsize.machines import EITHER, full_machine, joined
from loopsize.origins import ends_of_cells, ends_of_read, unlike_ends, widened_alike
from loopsize.programs import Loop, Program, Read, Statement
from loopsize.searches import least_row
from loopsize.sources import sources_for
from loopsize.unread import takings


def check_copies(program):
    for loop in range(len(program.loops)):
        for statement in range(len(program.loops[loop].statements)):
            if not is_copy(program, (loop, statement)):
                raise Mixing(loop, statement)


def contents_of_all(program, arrays):
    """For each of some arrays the ends of what its cells hold; an array that the program has not is left as it is."""
    endings = endings_for(program)
    told = []
    for array in arrays:
        if array in program.arrays:
            told.append(ends_of_cells(endings, array))
        else:
            told.append({("input", array): [widened_alike(full_machine(2))]})
    return told


def same_contents(first, second):
    """None if two programs of copies leave the same inputs in all cells, otherwise the first (n, array, cell)."""
    check_copies(first)
    check_copies(second)
    arrays = sorted({array for program in (first, second) for array in program.arrays})
    found = []
    for array, one, other in zip(arrays, contents_of_all(first, arrays), contents_of_all(second, arrays)):
        row = least_row(unlike_ends(one, other), 2, 0)
        if row is not None:
            found.append((row[0], array, row[1]))
    return min(found, default=None)


def forward(program, read, array, place):
    """The program in which a read reads a place of an array instead, if its paths end alike."""
    check_read(program, read)
    loop, statement, number = read
    old = statement_at(program, loop, statement)
    reads = list(old.reads)
    reads[number] = Read(array, place, factor=old.reads[number].factor)
    made = Statement(old.array, old.cell, old.constant, reads=reads, conditions=old.conditions)
    told = with_statements(program, loop, statement, [made])
    one = ends_of_read(endings_for(program), (loop, statement, number))
    other = ends_of_read(endings_for(told), (loop, statement, number))
    row = least_row(unlike_ends(one, other), 2, 0)
    if row is not None:
        raise NotSame(row[0], row[1])
    return told


def with_statements(program, loop, statement, made):
    """The program with some statements in the place of one."""
    loops = list(program.loops)
    old = loops[loop]
    statements = [*old.statements[:statement], *made, *old.statements[statement + 1:]]
    loops[loop] = Loop(old.low, old.high, statements, step=old.step, down=old.down)
    return Program(loops)


def drop(program, loop, statement):
    """The program without a statement whose works are all idle."""
    check_statement(program, loop, statement)
    sources = sources_for(program)
    writer = (loop, statement)
    busy = staying(sources, writer)
    for taken in takings(sources, writer):
        busy = joined(busy, left_machine(taken, 1), EITHER)
    row = least_row(busy, 2, 0)
    if row is not None:
        raise Taken(row[0], row[1])
    return with_statements(program, loop, statement, [])
