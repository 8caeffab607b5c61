"""Works at one size by their numbers, and how many works there are at all sizes."""

from loopsize.checks import check_size, check_statement
from loopsize.counts import count_of_machine, differs_at, sum_of
from loopsize.errors import NoNumber, NoWork
from loopsize.formulas import first_from, formula_of
from loopsize.turnsets import CYCLE, done_turns, is_done_in, last_of_turns, many_before, many_of, next_of_turns
from loopsize.workmachines import work_machine


def turns_of_loop(loop, n):
    """For each statement of a loop the turns at which it is done."""
    return [done_turns(loop, statement.conditions, n) for statement in loop.statements]


def turns_of(program, n):
    return [turns_of_loop(loop, n) for loop in program.loops]


def works_before(columns, turn):
    """How many works a loop does ahead of a turn."""
    return sum([many_before(turns, turn) for turns in columns])


def works_in(columns):
    return sum([many_of(turns) for turns in columns])


def count_works(program, n):
    """The number of works of the program at a size."""
    check_size(n)
    return sum([works_in(columns) for columns in turns_of(program, n)])


def count_statement(program, n, loop, statement):
    """The number of works of a statement at a size."""
    check_statement(program, loop, statement)
    check_size(n)
    return many_of(turns_of_loop(program.loops[loop], n)[statement])


def work_at(program, n, number):
    """The work with a number."""
    check_size(n)
    tables = turns_of(program, n)
    if not 0 <= number < sum([works_in(columns) for columns in tables]):
        raise NoNumber(number)
    loop, turn, statement = position_of(program, n, tables, number)
    return loop, program.loops[loop].counter_of(n, turn), statement


def position_of(program, n, tables, number):
    """The work with a number that there is, as (loop, turn, statement)."""
    loop = 0
    while number >= works_in(tables[loop]):
        number -= works_in(tables[loop])
        loop += 1
    columns = tables[loop]
    turn = turn_with(columns, number)
    number -= works_before(columns, turn)
    done = [statement for statement, turns in enumerate(columns) if is_done_in(turns, turn)]
    return loop, turn, done[number]


def turn_with(columns, number):
    """The turn that does the work with this number among those of the loop.

    Between two turns at which a statement begins or ends, the same is done in each cycle of turns.
    """
    marks = sorted(set([0] + [turns[0] for turns in columns] + [turns[1] + 1 for turns in columns]))
    starts = [mark for mark in marks if works_before(columns, mark) <= number]
    turn = starts[-1]
    number -= works_before(columns, turn)
    per_cycle = sum([len(turns[2]) for turns in columns if turns[0] <= turn <= turns[1]])
    turn += number // per_cycle * CYCLE
    number = number % per_cycle
    done = [turns for turns in columns if is_done_in(turns, turn)]
    while number >= len(done):
        number -= len(done)
        turn += 1
        done = [turns for turns in columns if is_done_in(turns, turn)]
    return turn


def turn_of_work(program, n, work):
    """The turn of a work, None if it is not a work of the program at the size."""
    loop, counter, statement = work
    if not 0 <= loop < len(program.loops) or not 0 <= statement < len(program.loops[loop].statements):
        return None
    turn = program.loops[loop].turn_of(n, counter)
    is_done = turn is not None and program.loops[loop].statements[statement].is_done(counter, n)
    return turn if is_done else None


def number_of(program, n, work):
    """The number of a work: how many works come before it."""
    check_size(n)
    turn = turn_of_work(program, n, work)
    if turn is None:
        raise NoWork(work)
    return number_at(turns_of(program, n), work[0], turn, work[2])


def number_at(tables, loop, turn, statement):
    """How many works come before a statement in a turn of a loop."""
    told = sum([works_in(columns) for columns in tables[:loop]]) + works_before(tables[loop], turn)
    return told + sum([1 for turns in tables[loop][:statement] if is_done_in(turns, turn)])


def next_work(program, n, number, loop, statement):
    """The least number of a work of the statement that is not below number, or None."""
    check_statement(program, loop, statement)
    check_size(n)
    tables = turns_of(program, n)
    first = sum([works_in(columns) for columns in tables[:loop]])
    if number >= first + works_in(tables[loop]):
        return None
    start = 0
    if number > first:
        _, turn, place = position_of(program, n, tables, number)
        start = turn if place <= statement else turn + 1
    found = next_of_turns(tables[loop][statement], start)
    return None if found is None else number_at(tables, loop, found, statement)


def last_work(program, n, number, loop, statement):
    """The greatest number of a work of the statement that is below number, or None."""
    check_statement(program, loop, statement)
    check_size(n)
    tables = turns_of(program, n)
    first = sum([works_in(columns) for columns in tables[:loop]])
    if number <= first:
        return None
    end = program.loops[loop].many_turns(n) - 1
    if number < first + works_in(tables[loop]):
        _, turn, place = position_of(program, n, tables, number - 1)
        end = turn if place >= statement else turn - 1
    found = last_of_turns(tables[loop][statement], end)
    return None if found is None else number_at(tables, loop, found, statement)


def work_totals(program):
    """The count of the works of the program."""
    counts = []
    for loop in program.loops:
        for statement in loop.statements:
            counts.append(count_of_machine(work_machine(loop, statement)))
    return sum_of(counts)


def totals_differ(first, second):
    """The least size at which two programs do unlike numbers of works, None if there is none."""
    return differs_at(work_totals(first), work_totals(second))


def first_size_with(program, many):
    """The least size at which the program does at least so many works, None if there is none."""
    formula = formula_of(work_totals(program))
    return 0 if many <= 0 else first_from(formula, many)
