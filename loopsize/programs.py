"""Programs: rows of loops, each a row of statements."""

from loopsize.conditions import Rest
from loopsize.errors import BadName, BadNumber, TooMany
from loopsize.kinds import is_array_name, is_integer_from
from loopsize.straights import place_like, straight_like

TOP_PART = 12
TOP_ONE = 999
TOP_DIVISOR = 3
TOP_RANGE_PART = 3
TOP_STEP = 16
MOST_LOOPS = 6
MOST_STATEMENTS = 16
MOST_READS = 3
MOST_CONDITIONS = 3


class Read:
    """factor times the value of a cell of an array."""

    def __init__(self, array, place, *, factor=1):
        check_name(array)
        if factor == 0:
            raise BadNumber("factor", factor)
        check_number("factor", factor, -TOP_ONE, TOP_ONE)
        self.array = array
        self.place = place_like(place)
        self.factor = factor
        check_place(self.place)


class Statement:
    """A cell of an array gets the sum of a constant and of reads, if all conditions hold."""

    def __init__(self, array, cell, constant, *, reads=(), conditions=()):
        check_many("reads", reads, MOST_READS)
        check_many("conditions", conditions, MOST_CONDITIONS)
        check_name(array)
        for condition in conditions:
            check_sum(condition.straight)
        self.array = array
        self.cell = straight_like(cell)
        check_sum(self.cell)
        check_number("constant", constant, -TOP_ONE, TOP_ONE)
        self.constant = constant
        self.reads = tuple(reads)
        self.conditions = tuple(conditions)

    def is_done(self, i, n):
        return all([condition.holds(i, n) for condition in self.conditions])


class Loop:
    """Statements that are done for each counter: low, low + step and so on, from 0 on and below high."""

    def __init__(self, low, high, statements, *, step=1, down=False):
        check_many("statements", statements, MOST_STATEMENTS)
        check_number("step", step, 1, TOP_STEP)
        self.low = place_like(low)
        self.high = place_like(high)
        check_range_place(self.low)
        check_range_place(self.high)
        if step > 1 and self.low.divisor > 1:
            raise BadNumber("step", step)
        self.statements = tuple(statements)
        self.step = step
        self.down = down

    def many_turns(self, n):
        return turns_from(self, self.least_counter(n), n)

    def counter_of(self, n, turn):
        """The counter of a turn; the turns are numbered from 0 in their order."""
        least = self.least_counter(n)
        many = turns_from(self, least, n)
        if not is_integer_from(turn, 0, many - 1):
            raise BadNumber("turn", turn)
        place = many - 1 - turn if self.down else turn
        return least + place * self.step

    def turn_of(self, n, counter):
        """The number of the turn of a counter, None if the loop does not have it."""
        least = self.least_counter(n)
        many = turns_from(self, least, n)
        place, rest = divmod(counter - least, self.step)
        if rest != 0 or not 0 <= place < many:
            return None
        return many - 1 - place if self.down else place

    def least_counter(self, n):
        """The least of low, low + step and so on that is not below 0, also if it is not below high."""
        low = self.low(0, n)
        return low if low >= 0 else low % self.step


class Program:
    """A row of loops."""

    def __init__(self, loops):
        check_many("loops", loops, MOST_LOOPS)
        self.loops = tuple(loops)
        self.arrays = arrays_in(self.loops)
        # What was found out about it: a program is asked one thing after the other.
        self.known = {}


def turns_from(loop, least, n):
    """How many counters there are from the least one on."""
    return max(0, -((least - loop.high(0, n)) // loop.step))


def arrays_in(loops):
    names = []
    for loop in loops:
        for statement in loop.statements:
            names.append(statement.array)
            names.extend([read.array for read in statement.reads])
    return tuple(sorted(set(names)))


def check_many(what, things, most):
    if len(things) > most:
        raise TooMany(what, len(things), most)


def check_name(array):
    if not is_array_name(array):
        raise BadName(array)


def check_number(what, number, low, high):
    if not low <= number <= high:
        raise BadNumber(what, number)


def check_sum(straight):
    check_number("i", straight.i, -TOP_PART, TOP_PART)
    check_number("n", straight.n, -TOP_PART, TOP_PART)
    check_number("one", straight.one, -TOP_ONE, TOP_ONE)


def check_place(place):
    check_sum(place.straight)
    check_number("divisor", place.divisor, 1, TOP_DIVISOR)


def check_range_place(place):
    """The bounds of where a loop begins and ends: no counter, and no size less than none."""
    check_number("i", place.straight.i, 0, 0)
    check_number("n", place.straight.n, 0, TOP_RANGE_PART)
    check_number("one", place.straight.one, -TOP_ONE, TOP_ONE)
    check_number("divisor", place.divisor, 1, TOP_DIVISOR)


def same_programs(one, other):
    """Whether all attributes, throughout, are equal."""
    return program_parts(one) == program_parts(other)


def program_parts(program):
    """All that a program is made of, as tuples."""
    return [(loop.low, loop.high, loop.step, loop.down, statements_parts(loop)) for loop in program.loops]


def statements_parts(loop):
    told = []
    for statement in loop.statements:
        reads = [(read.array, read.place, read.factor) for read in statement.reads]
        conditions = [condition_parts(condition) for condition in statement.conditions]
        told.append((statement.array, statement.cell, statement.constant, reads, conditions))
    return told


def condition_parts(condition):
    if isinstance(condition, Rest):
        return ("rest", condition.straight, condition.modulus, condition.rest)
    return ("least", condition.straight)
