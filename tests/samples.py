"""Programs by chance, and what plain logs tell of them: the tests hold the package against it."""

import random

from loopsize.conditions import AtLeast, Rest
from loopsize.errors import LoopError
from loopsize.programs import Loop, Program, Read, Statement
from loopsize.straights import Place, Straight


def random_sum(chance, most, one):
    return Straight(chance.randint(-most, most), chance.choice([0, 0, 0, 1, -1, most]), chance.randint(-one, one))


def random_condition(chance):
    straight = Straight(chance.randint(-2, 2), chance.randint(-1, 1), chance.randint(-3, 3))
    if chance.random() < 0.5:
        return AtLeast(straight)
    modulus = chance.randint(2, 4)
    return Rest(straight, modulus, chance.randrange(modulus))


def random_cell(chance):
    kind = chance.random()
    if kind < 0.6:
        return Straight(1, 0, chance.randint(-2, 2))
    if kind < 0.7:
        return Straight(0, chance.choice([0, 0, 1]), chance.randint(0, 2))
    return random_sum(chance, 2, 3)


def random_statement(chance, arrays):
    reads = []
    for _ in range(chance.choice([0, 1, 1, 2])):
        divisor = chance.choice([1, 1, 1, 2, 3])
        reads.append(Read(chance.choice(arrays), Place(random_cell(chance), divisor), factor=chance.choice([1, 2, -3])))
    conditions = [random_condition(chance) for _ in range(chance.choice([0, 0, 0, 1, 2]))]
    return Statement(chance.choice(arrays), random_cell(chance), chance.randint(-5, 5), reads=reads,
                     conditions=conditions)


def random_loop(chance, arrays, most_statements):
    step = chance.choice([1, 1, 1, 2, 3])
    low = Place(Straight(0, chance.choice([0, 0, 0, 1]), chance.randint(-2, 3)), chance.choice([1, 1, 2]) if step == 1 else 1)
    high = Place(Straight(0, chance.choice([1, 1, 1, 2, 0]), chance.randint(-2, 3)), chance.choice([1, 1, 1, 2]))
    statements = [random_statement(chance, arrays) for _ in range(chance.randint(1, most_statements))]
    return Loop(low, high, statements, step=step, down=chance.random() < 0.35)


def random_program(chance, *, arrays="xyz", most_loops=3, most_statements=3):
    arrays = [chance.choice(arrays) for _ in range(2)]
    return Program([random_loop(chance, arrays, most_statements) for _ in range(chance.randint(1, most_loops))])


def random_programs(seed, many, **bounds):
    chance = random.Random(seed)
    return [random_program(chance, **bounds) for _ in range(many)]


def statements_in(program):
    """All pairs (loop, statement)."""
    told = []
    for place, loop in enumerate(program.loops):
        told.extend((place, number) for number in range(len(loop.statements)))
    return told


def statement_of(program, work):
    return program.loops[work[0]].statements[work[2]]


def reads_in(program):
    """All tuples (loop, statement, read)."""
    told = []
    for loop, statement in statements_in(program):
        many = len(program.loops[loop].statements[statement].reads)
        told.extend((loop, statement, number) for number in range(many))
    return told


def accesses_of(program, work, n):
    """The pairs (array, cell) of a work: its reads, then its write."""
    statement = statement_of(program, work)
    told = [(read.array, read.place(work[1], n)) for read in statement.reads]
    return told + [(statement.array, statement.cell(work[1], n))]


def or_error(function, *arguments):
    """What a call tells, or the name of the error that it raises."""
    try:
        return function(*arguments)
    except LoopError as error:
        return error.__class__.__name__


def kept_program(chance):
    """A program whose array t is often kept between: a first loop writes many cells, the others read and write them."""
    many = chance.choice([Straight(0, 2, 6), Straight(0, 1, 9), Straight(0, 3, 3)])
    first = Statement("t", Straight(chance.choice([1, 1, 1, 2]), 0, chance.choice([0, -3, -4])), 1,
                      reads=[Read("a", Straight(1, 0, 0))])
    loops = [Loop(0, many, [first], down=chance.random() < 0.3)]
    for _ in range(chance.randint(1, 2)):
        statements = []
        for _ in range(chance.randint(1, 2)):
            place = Place(Straight(chance.choice([1, 1, 2, 0]), chance.choice([0, 0, 1]), chance.randint(-2, 2)),
                          chance.choice([1, 1, 2, 3]))
            array = chance.choice(["t", "b"])
            conditions = [random_condition(chance) for _ in range(chance.choice([0, 0, 1]))]
            statements.append(Statement(array, Straight(chance.choice([1, 1, 2, 0]), 0, chance.randint(-2, 3)), 1,
                                        reads=[Read("t", place)], conditions=conditions))
        loops.append(Loop(chance.choice([0, 1, 2]), Straight(0, 1, chance.randint(-1, 1)), statements,
                          step=chance.choice([1, 1, 2]), down=chance.random() < 0.4))
    return Program(loops)
