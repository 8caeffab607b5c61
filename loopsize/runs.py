"""Plain runs of programs: all works in order, who takes what from whom, and runs in both ways."""

from loopsize.errors import AtEnd, AtStart, BadNumber, BadSize, NoWork, TooLong
from loopsize.kinds import LETTERS, is_integer_from, is_size
from loopsize.programs import check_name

MODULUS = 1000003
MOST_TURNS = 20000
MOST_DEPTH = 4


class Run:
    """What the cells hold behind a run. Made by run_program alone."""

    def __init__(self, many_works, cells):
        self.many_works = many_works
        self.cells = cells

    def value_of(self, array, cell):
        return value_in(self.cells, array, cell)

    def cells_of(self, array):
        """The pairs (cell, value), ascending, of the cells of an array that were in start or written."""
        check_name(array)
        cells = self.cells.get(array, {})
        return tuple([(cell, cells[cell]) for cell in sorted(cells)])


class Log:
    """Who takes what from whom. Made by log_program alone."""

    def __init__(self, works, writes, takes):
        self.works = works
        self.writes = writes
        self.takes = takes
        self.numbers = {work: at for at, work in enumerate(works)}
        self.writers = {write: works[at] for at, write in enumerate(writes)}

    def last_writer(self, array, cell):
        """The last work that writes the cell, or None."""
        return self.writers.get((array, cell))

    def term_of(self, work, depth):
        """A work with what it takes, as deep as is asked."""
        if tuple(work) not in self.numbers:
            raise NoWork(work)
        if not is_integer_from(depth, 0, MOST_DEPTH):
            raise BadNumber("depth", depth)
        return self.term_below(tuple(work), depth)

    def term_below(self, work, depth):
        if depth == 0:
            return work
        parts = []
        for array, cell, source in self.takes[self.numbers[work]]:
            parts.append((array, cell) if source is None else self.term_below(source, depth - 1))
        return work, tuple(parts)


class Stepper:
    """Goes through a run in both ways."""

    def __init__(self, program, n, *, start=()):
        check_run(program, n)
        self.program = program
        self.n = n
        self.works = works_of(program, n)
        self.cells = first_cells(start)
        self.overwritten = []

    def many_done(self):
        return len(self.overwritten)

    def next_work(self):
        """The next work, None at the end."""
        many = len(self.overwritten)
        return self.works[many] if many < len(self.works) else None

    def do_work(self):
        work = self.next_work()
        if work is None:
            raise AtEnd()
        array, cell, value = write_of(self.program, self.n, work, self.cells)
        cells = self.cells.setdefault(array, {})
        self.overwritten.append((array, cell, cells.get(cell)))
        cells[cell] = value

    def undo_work(self):
        """Takes the last work back that is done."""
        if not self.overwritten:
            raise AtStart()
        array, cell, value = self.overwritten.pop()
        if value is None:
            del self.cells[array][cell]
        else:
            self.cells[array][cell] = value

    def go_to(self, many):
        """Does works or takes them back until so many are done."""
        if not is_integer_from(many, 0, len(self.works)):
            raise BadNumber("many", many)
        while len(self.overwritten) < many:
            self.do_work()
        while len(self.overwritten) > many:
            self.undo_work()

    def value_of(self, array, cell):
        return value_in(self.cells, array, cell)


def first_value(array, cell):
    """What a cell of an array holds at first; the name is a right one."""
    places = sum([LETTERS.index(letter) + 1 for letter in array])
    return (7 * cell + 3 * places + 1) % MODULUS


def input_value(array, cell):
    """What a cell of an array holds at first."""
    check_name(array)
    return first_value(array, cell)


def held_value(cells, array, cell):
    held = cells.get(array)
    if held is not None and cell in held:
        return held[cell]
    return first_value(array, cell)


def value_in(cells, array, cell):
    check_name(array)
    return held_value(cells, array, cell)


def check_run(program, n):
    """The errors of all runs: a size, and not too many turns."""
    if not is_size(n):
        raise BadSize(n)
    many = sum([loop.many_turns(n) for loop in program.loops])
    if many > MOST_TURNS:
        raise TooLong(many)


def first_cells(start):
    """The cells that are put in ahead of all works: a dict for each array."""
    told = {}
    for array, cell, value in start:
        check_name(array)
        told.setdefault(array, {})[cell] = value % MODULUS
    return told


def works_of(program, n):
    """All works at a size, in order."""
    told = []
    for place, loop in enumerate(program.loops):
        for turn in range(loop.many_turns(n)):
            counter = loop.counter_of(n, turn)
            for number, statement in enumerate(loop.statements):
                if statement.is_done(counter, n):
                    told.append((place, counter, number))
    return told


def statement_of(program, work):
    return program.loops[work[0]].statements[work[2]]


def write_of(program, n, work, cells):
    """What a work writes: (array, cell, value)."""
    statement = statement_of(program, work)
    value = statement.constant
    for read in statement.reads:
        value += read.factor * held_value(cells, read.array, read.place(work[1], n))
    return statement.array, statement.cell(work[1], n), value % MODULUS


def run_program(program, n, *, start=()):
    """Does all works in order."""
    check_run(program, n)
    cells = first_cells(start)
    works = works_of(program, n)
    for work in works:
        array, cell, value = write_of(program, n, work, cells)
        cells.setdefault(array, {})[cell] = value
    return Run(len(works), cells)


def first_difference(one, other):
    """The first (array, cell) at which two runs hold unlike values, or None."""
    for array in sorted(set([*one.cells, *other.cells])):
        for cell in sorted(set([*one.cells.get(array, {}), *other.cells.get(array, {})])):
            if held_value(one.cells, array, cell) != held_value(other.cells, array, cell):
                return array, cell
    return None


def log_program(program, n):
    """Who takes what from whom at a size."""
    check_run(program, n)
    works = works_of(program, n)
    writes = []
    takes = []
    last = {}
    for work in works:
        statement = statement_of(program, work)
        places = [(read.array, read.place(work[1], n)) for read in statement.reads]
        takes.append(tuple([(array, cell, last.get((array, cell))) for array, cell in places]))
        write = (statement.array, statement.cell(work[1], n))
        writes.append(write)
        last[write] = work
    return Log(tuple(works), tuple(writes), tuple(takes))
