"""Paths of values back through copies, followed in plain logs, and programs of copies by chance."""

from loopsize.programs import Loop, Program, Read, Statement
from loopsize.runs import log_program
from loopsize.straights import Place, Straight
from tests.samples import random_condition, reads_in, statement_of

MANY_SIZES = 14


def is_plain_copy(program, work):
    statement = statement_of(program, work)
    return statement.constant == 0 and [read.factor for read in statement.reads] == [1]


class PlainPaths:
    """The paths of a program at a size."""

    def __init__(self, program, n):
        self.program = program
        self.log = log_program(program, n)
        self.takes = dict(zip(self.log.works, self.log.takes))

    def path_of(self, work, read):
        """(works, end) of a read of a work."""
        array, cell, source = self.takes[work][read]
        if source is None:
            return (), ("input", array, cell)
        return self.path_behind(source)

    def path_behind(self, source):
        """(works, end) of what a work leaves."""
        works = []
        while is_plain_copy(self.program, source):
            works.append(source)
            array, cell, then = self.takes[source][0]
            if then is None:
                return tuple(works), ("input", array, cell)
            source = then
        return tuple(works), ("work", *source)

    def path_of_cell(self, array, cell):
        source = self.log.last_writer(array, cell)
        return ((), ("input", array, cell)) if source is None else self.path_behind(source)


def paths_by_size(program, sizes=MANY_SIZES):
    return [PlainPaths(program, n) for n in range(sizes)]


def straight_copies(paths):
    """The copies (loop, statement) that take from their own works, always from as many counters away."""
    found = {}
    for there in paths:
        for work, taken in there.takes.items():
            if is_plain_copy(there.program, work) and taken[0][2] is not None:
                source = taken[0][2]
                if (source[0], source[2]) == (work[0], work[2]):
                    found.setdefault((work[0], work[2]), set()).add(work[1] - source[1])
    return {name for name in found if len(found[name]) == 1}


def many_stretches(works, straight):
    told = 0
    for at, work in enumerate(works):
        name = (work[0], work[2])
        if at == 0 or name not in straight or (works[at - 1][0], works[at - 1][2]) != name:
            told += 1
    return told


def key_and_last(end):
    """The end of a path as origins has it, and the last number of its row."""
    if end[0] == "work":
        return ("work", end[1], end[3]), end[2]
    return (end[0], end[1]) if end[2] >= 0 else ("below", end[1]), abs(end[2])


def random_copy(chance, arrays):
    place = Place(Straight(chance.choice([1, 1, 1, -1, 0, 2]), chance.choice([0, 0, 0, 1]), chance.randint(-2, 2)),
                  chance.choice([1, 1, 1, 1, 2]))
    cell = Straight(chance.choice([1, 1, 1, 1, -1, 0, 2]), chance.choice([0, 0, 0, 1]), chance.randint(-1, 2))
    conditions = [random_condition(chance) for _ in range(chance.choice([0, 0, 0, 1]))]
    return Statement(chance.choice(arrays), cell, 0, reads=[Read(chance.choice(arrays), place)], conditions=conditions)


def random_mover(chance, *, pure=True, arrays="xy", most_loops=3):
    """A program of copies, or with some other statements among them."""
    loops = []
    for _ in range(chance.randint(1, most_loops)):
        statements = []
        for _ in range(chance.randint(1, 2)):
            statement = random_copy(chance, arrays)
            if not pure and chance.random() < 0.35:
                more = [] if chance.random() < 0.5 else [Read("a", Straight(1, 0, 0))]
                statement = Statement(statement.array, statement.cell, chance.choice([0, 5]),
                                      reads=list(statement.reads) + more, conditions=statement.conditions)
            statements.append(statement)
        loops.append(Loop(chance.choice([0, 0, 1, 2]), Straight(0, 1, chance.choice([0, 0, -1, 1])), statements,
                          step=chance.choice([1, 1, 1, 2]), down=chance.random() < 0.3))
    return Program(loops)


def all_reads(program):
    return reads_in(program)
