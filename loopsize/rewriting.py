"""Rewritings: a program, another one, and for each statement of the latter what it stands for."""

from loopsize.checks import check_loop, check_size, check_statement, statement_at
from loopsize.conditions import Rest
from loopsize.errors import BadMany, NoLoop, NoStatement, OtherProgram, Unlike
from loopsize.kinds import is_integer_from
from loopsize.programs import Loop, Program, Read, Statement, same_programs
from loopsize.straights import Straight
from loopsize.works import turn_of_work

MOST_DEALT = 4
MOST_UNROLLED = 16


class Rewriting:
    """A rewriting of the program before into the program after. Made by the functions of the package alone."""

    def __init__(self, before, after, origins):
        self.before = before
        self.after = after
        self.origins = origins
        # What was found out about it: a rewriting is asked one thing after the other.
        self.known = {}

    def then(self, other):
        """The rewriting from the first program to the last."""
        if not same_programs(self.after, other.before):
            raise OtherProgram()
        told = []
        for row in other.origins:
            told.append(tuple([followed(self.origins, origin) for origin in row]))
        return Rewriting(self.before, other.after, tuple(told))

    def origin(self, work):
        """What a tuple (loop, counter, statement) of the program after stands for."""
        loop, counter, statement = work
        check_statement(self.after, loop, statement)
        first, place, shift = self.origins[loop][statement]
        return first, counter + shift, place

    def places(self, n, work):
        """The works of the program after that stand for a tuple of the program before, in their order."""
        loop, counter, statement = work
        check_statement(self.before, loop, statement)
        check_size(n)
        found = []
        for place, number, shift in stands_for(self, loop, statement):
            turn = turn_of_work(self.after, n, (place, counter - shift, number))
            if turn is not None:
                found.append((place, turn, number, counter - shift))
        return [(place, there, number) for place, _, number, there in sorted(found)]


def followed(origins, origin):
    """What the origin of an origin is, in the program before."""
    loop, statement, shift = origin
    first, place, more = origins[loop][statement]
    return first, place, shift + more


def stands_for(rewriting, loop, statement):
    """The statements of the program after that stand for one of the program before: (loop, statement, shift)."""
    told = []
    for place, row in enumerate(rewriting.origins):
        for number, origin in enumerate(row):
            if origin[:2] == (loop, statement):
                told.append((place, number, origin[2]))
    return told


def kept_loop(program, place):
    """A loop that stays as it is: (low, high, step, down, entries)."""
    return with_entries(program.loops[place], entries_of(program, place))


def with_entries(loop, entries):
    return loop.low, loop.high, loop.step, loop.down, entries


def entries_of(program, place):
    """The statements of a loop as they are. An entry is (loop, statement, shift, conditions put ahead)."""
    return [(place, number, 0, []) for number in range(len(program.loops[place].statements))]


def rewritten(program, place, many, parts):
    """The rewriting that puts parts in the place of some loops from one on. All is made in its order."""
    plan = [kept_loop(program, at) for at in range(place)] + parts
    plan.extend([kept_loop(program, at) for at in range(place + many, len(program.loops))])
    loops = []
    for low, high, step, down, entries in plan:
        statements = [made_statement(program, entry) for entry in entries]
        loops.append(Loop(low, high, statements, step=step, down=down))
    origins = [tuple([entry[:3] for entry in part[4]]) for part in plan]
    return Rewriting(program, Program(loops), tuple(origins))


def made_statement(program, entry):
    """The statement with i + shift in the place of i, and with conditions put ahead of its own ones."""
    place, number, shift, checks = entry
    old = statement_at(program, place, number)
    if shift == 0 and not checks:
        return old
    reads = [Read(read.array, read.place.replaced(1, shift), factor=read.factor) for read in old.reads]
    conditions = checks + [condition.replaced(1, shift) for condition in old.conditions]
    return Statement(old.array, old.cell.replaced(1, shift), old.constant, reads=reads, conditions=conditions)


def no_rewriting(program):
    """The rewriting that changes nothing."""
    origins = []
    for place in range(len(program.loops)):
        origins.append(tuple([entry[:3] for entry in entries_of(program, place)]))
    return Rewriting(program, program, tuple(origins))


def check_next_loop(program, loop):
    check_loop(program, loop)
    if loop + 1 == len(program.loops):
        raise NoLoop(loop)


def swap_loops(program, loop):
    """The loop and the next one change places."""
    check_next_loop(program, loop)
    return rewritten(program, loop, 2, [kept_loop(program, loop + 1), kept_loop(program, loop)])


def swap_statements(program, loop, statement):
    """The statement and the next one of the loop change places."""
    check_statement(program, loop, statement)
    entries = entries_of(program, loop)
    if statement + 1 == len(entries):
        raise NoStatement(loop, statement)
    entries[statement], entries[statement + 1] = entries[statement + 1], entries[statement]
    return rewritten(program, loop, 1, [with_entries(program.loops[loop], entries)])


def turn_loop(program, loop):
    """The loop goes the other way."""
    check_loop(program, loop)
    low, high, step, down, entries = kept_loop(program, loop)
    return rewritten(program, loop, 1, [(low, high, step, not down, entries)])


def join_loops(program, loop):
    """The statements of the next loop are put behind those of the loop."""
    check_next_loop(program, loop)
    one = program.loops[loop]
    other = program.loops[loop + 1]
    if one.step != other.step or one.down != other.down:
        raise Unlike(loop)
    entries = entries_of(program, loop) + entries_of(program, loop + 1)
    return rewritten(program, loop, 2, [with_entries(one, entries)])


def split_loop(program, loop, statement):
    """The statements from this one on become a loop of their own."""
    check_statement(program, loop, statement)
    if statement == 0:
        raise NoStatement(loop, statement)
    entries = entries_of(program, loop)
    old = program.loops[loop]
    return rewritten(program, loop, 1, [with_entries(old, entries[:statement]), with_entries(old, entries[statement:])])


def cut_loop(program, loop, place):
    """The loop becomes two, one below the place and one from the place on."""
    check_loop(program, loop)
    low, high, step, down, entries = kept_loop(program, loop)
    parts = [(low, place, step, down, entries), (place, high, step, down, entries)]
    return rewritten(program, loop, 1, parts[::-1] if down else parts)


def deal_loop(program, loop, many):
    """The loop becomes many loops, each with the counters that have one rest."""
    check_loop(program, loop)
    if not is_integer_from(many, 2, MOST_DEALT):
        raise BadMany(many)
    parts = []
    for rest in range(many):
        checks = [Rest(Straight(1, 0, 0), many, rest)]
        entries = [(place, number, shift, checks) for place, number, shift, _ in entries_of(program, loop)]
        parts.append(with_entries(program.loops[loop], entries))
    return rewritten(program, loop, 1, parts)


def unroll_loop(program, loop, many):
    """The statements stand many times, one lot behind the other, and the step is as many times as great."""
    check_loop(program, loop)
    if not is_integer_from(many, 2, MOST_UNROLLED):
        raise BadMany(many)
    low, high, step, down, entries = kept_loop(program, loop)
    order = [many - 1 - lot if down else lot for lot in range(many)]
    lots = []
    for lot in order:
        lots.extend([(place, number, step * lot, checks) for place, number, _, checks in entries])
    return rewritten(program, loop, 1, [(low, high, step * many, down, lots)])
