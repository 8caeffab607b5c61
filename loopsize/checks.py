"""The errors that are raised ahead of all others for what is passed beside a program."""

from loopsize.errors import BadSize, NoAccess, NoArray, NoLoop, NoRead, NoStatement
from loopsize.kinds import is_integer_from, is_size


def check_loop(program, loop):
    if not is_integer_from(loop, 0, len(program.loops) - 1):
        raise NoLoop(loop)


def check_statement(program, loop, statement):
    check_loop(program, loop)
    if not is_integer_from(statement, 0, len(program.loops[loop].statements) - 1):
        raise NoStatement(loop, statement)


def check_read(program, read):
    """A read is the tuple (loop, statement, read)."""
    loop, statement, number = read
    check_statement(program, loop, statement)
    if not is_integer_from(number, 0, len(statement_at(program, loop, statement).reads) - 1):
        raise NoRead(number)


def check_access(program, access):
    """An access is the tuple (loop, statement, access): the reads from the left, then the write."""
    loop, statement, number = access
    check_statement(program, loop, statement)
    if not is_integer_from(number, 0, len(statement_at(program, loop, statement).reads)):
        raise NoAccess(number)


def check_array(program, array):
    if not isinstance(array, str) or array not in program.arrays:
        raise NoArray(array)


def check_size(n):
    if not is_size(n):
        raise BadSize(n)


def statement_at(program, loop, statement):
    return program.loops[loop].statements[statement]
