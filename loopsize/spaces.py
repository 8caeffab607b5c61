"""Which turns and which works there are, at all sizes."""

from loopsize.checks import check_loop, check_statement, statement_at
from loopsize.conditions import AtLeast
from loopsize.conditionsets import in_all, joined_at_last
from loopsize.cuts import left_freely
from loopsize.digitsets import least_told_set, told_set
from loopsize.machines import BOTH, FIRST_ALONE, UNLIKE, joined, turned
from loopsize.searches import least_first, least_row
from loopsize.turnsets import done_turns, next_of_turns
from loopsize.workmachines import check_machine, turn_machine, work_machine, work_machines


def turn_set(program, loop):
    """The set of the pairs (n, i) such that i is a counter of the loop at n."""
    check_loop(program, loop)
    return told_set(turn_machine(program.loops[loop]))


def work_set(program, loop, statement):
    """The set of the pairs (n, i) such that (loop, i, statement) is a work at n."""
    check_statement(program, loop, statement)
    machines = work_machines(program.loops[loop], statement_at(program, loop, statement))
    rows, ends = joined_at_last(machines, BOTH)
    return least_told_set(rows, ends)


def sizes_with_work(program, loop, statement):
    """The set of all n at which the statement does at least one work."""
    check_statement(program, loop, statement)
    works = work_machine(program.loops[loop], statement_at(program, loop, statement))
    rows, ends = left_freely(works, 1)
    return least_told_set(rows, ends)


def sizes_with_every_turn(program, loop, statement):
    """The set of all n at which the statement is done at every turn of its loop."""
    check_statement(program, loop, statement)
    turns = turn_machine(program.loops[loop])
    checks = [check_machine(condition) for condition in statement_at(program, loop, statement).conditions]
    left = joined(turns, in_all([turns] + checks), FIRST_ALONE)
    rows, ends = turned(left_freely(left, 1))
    return least_told_set(rows, ends)


def turns_differ(first, first_loop, second, second_loop):
    """The least (n, i) such that i is a counter of just one of two loops at n, None if there is none."""
    check_loop(first, first_loop)
    check_loop(second, second_loop)
    unlike = joined(turn_machine(first.loops[first_loop]), turn_machine(second.loops[second_loop]), UNLIKE)
    return least_row(unlike, 2, 0)


def bad_cell(program):
    """The first access of a work to a cell below 0, at the least size at which there is one: (n, loop, counter,
    statement, access); None if there is none."""
    sizes = []
    for loop in program.loops:
        for statement in loop.statements:
            sizes.extend(sizes_below(loop, statement))
    return bad_cell_at(program, min(sizes)) if sizes else None


def sizes_below(loop, statement):
    """For each access that is below 0 somewhere the least size at which it is."""
    below = [straight for straight in accessed(statement) if min(straight.i, straight.n, straight.one) < 0]
    if not below:
        return []
    works = work_machine(loop, statement)
    least = [least_first(in_all([works, check_machine(AtLeast(-straight - 1))])) for straight in below]
    return [n for n in least if n is not None]


def accessed(statement):
    """For each access a straight sum that is below 0 just where its cell is: the reads, then the write."""
    return [read.place.straight for read in statement.reads] + [statement.cell]


def bad_cell_at(program, n):
    """The same at a size at which there is one."""
    for place, loop in enumerate(program.loops):
        found = []
        for number, statement in enumerate(loop.statements):
            for access, straight in enumerate(accessed(statement)):
                turns = done_turns(loop, [*statement.conditions, AtLeast(-straight - 1)], n)
                turn = next_of_turns(turns, 0)
                if turn is not None:
                    found.append((turn, number, access))
        if found:
            turn, number, access = min(found)
            return n, place, loop.counter_of(n, turn), number, access
    return None
