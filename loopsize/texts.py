"""Texts of programs: read, and written in one form."""

from loopsize.conditions import AtLeast, Rest
from loopsize.grammar import read_loop_line, read_place_words, read_statement_line
from loopsize.programs import Loop, Program, Read, Statement
from loopsize.straights import Place
from loopsize.words import Words


def read_program(text):
    """The program that a text tells. All lines are read ahead of any bound."""
    lines = []
    for at, line in enumerate(text.split("\n")):
        words = Words(at + 1, line)
        if words.word() == "":
            continue
        if line[0] != " ":
            lines.append((read_loop_line(words), []))
        elif lines:
            lines[-1][1].append(read_statement_line(words))
        else:
            words.refuse()
    return Program([made_loop(head, statements) for head, statements in lines])


def made_loop(head, lines):
    low, high, step, down = head
    first = Place(low[0], low[1])
    last = Place(high[0], high[1])
    return Loop(first, last, [made_statement(line) for line in lines], step=step, down=down)


def made_statement(line):
    conditions, array, cell, items = line
    checks = [made_condition(condition) for condition in conditions]
    constant = sum([number for number, source in items if source is None])
    reads = [made_read(factor, source) for factor, source in items if source is not None]
    return Statement(array, cell, constant, reads=reads, conditions=checks)


def made_condition(condition):
    if condition[0] == "rest":
        return Rest(condition[1], condition[2], condition[3])
    return AtLeast(condition[1])


def made_read(factor, source):
    array, place = source
    return Read(array, Place(place[0], place[1]), factor=factor)


def read_place(text):
    """The place that a text of one line tells."""
    words = Words(1, text)
    straight, divisor = read_place_words(words, ("i", "n"))
    words.must_have("")
    return Place(straight, divisor)


def program_text(program):
    """The text of a program in one form."""
    lines = []
    for loop in program.loops:
        lines.append(loop_text(loop))
        for statement in loop.statements:
            lines.append("    " + statement_text(statement))
    return "".join([line + "\n" for line in lines])


def loop_text(loop):
    step = f" by {loop.step}" if loop.step > 1 else ""
    down = " down" if loop.down else ""
    return f"for i from {place_text(loop.low)} below {place_text(loop.high)}{step}{down}:"


def statement_text(statement):
    head = ""
    if statement.conditions:
        head = "if " + " and ".join([condition_text(condition) for condition in statement.conditions]) + ": "
    items = []
    if statement.constant != 0 or not statement.reads:
        items.append((statement.constant, ""))
    for read in statement.reads:
        items.append((read.factor, f"{read.array}[{place_text(read.place)}]"))
    return f"{head}{statement.array}[{sum_text(statement.cell)}] = {joined_text(items)}"


def condition_text(condition):
    if isinstance(condition, Rest):
        return f"{divided_text(condition.straight)} mod {condition.modulus} == {condition.rest}"
    return f"{sum_text(condition.straight)} >= 0"


def place_text(place):
    if place.divisor == 1:
        return sum_text(place.straight)
    return f"{divided_text(place.straight)} // {place.divisor}"


def divided_text(straight):
    """The text of a sum ahead of a sign that is for one term alone."""
    terms = [factor for factor in (straight.i, straight.n, straight.one) if factor != 0]
    return f"({sum_text(straight)})" if len(terms) > 1 else sum_text(straight)


def sum_text(straight):
    terms = [(straight.i, "i"), (straight.n, "n"), (straight.one, "")]
    used = [(factor, name) for factor, name in terms if factor != 0]
    return joined_text(used) if used else "0"


def joined_text(terms):
    """Factors with names behind them, or alone, with + and - between."""
    told = ""
    for factor, name in terms:
        size = abs(factor)
        sign = "-" if factor < 0 else ""
        if told != "":
            sign = " - " if factor < 0 else " + "
        if name == "":
            told = told + sign + str(size)
        elif size == 1:
            told = told + sign + name
        else:
            told = told + f"{sign}{size} * {name}"
    return told
