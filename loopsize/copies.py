"""Statements that copy a value from one cell to another one."""

from loopsize.checks import statement_at


def is_copy(program, name):
    """Whether the statement (loop, statement) has the constant 0 and exactly one read, whose factor is 1."""
    statement = statement_at(program, name[0], name[1])
    return statement.constant == 0 and len(statement.reads) == 1 and statement.reads[0].factor == 1
