"""The lines of a text of a program, read word by word, without a look at bounds.

Each function goes over the words that it reads and tells what they say. A word is refused as soon as no right line
goes on with it.
"""

from loopsize.straights import Straight
from loopsize.words import DIGITS

SIGNS = ("+", "-")
COMPARISONS = (">=", ">", "<=", "<")


def read_term(words, names):
    """A term of a sum; names are those of i and n that may stand in it."""
    factor = 1
    if words.word() != "" and words.word()[0] in DIGITS:
        factor = words.number_word()
        if not words.has("*"):
            return Straight(0, 0, factor)
    if words.word() not in names:
        words.refuse()
    return Straight(factor, 0, 0) if words.take() == "i" else Straight(0, factor, 0)


def read_sum(words, names):
    """A sum and the number of its terms."""
    told = -read_term(words, names) if words.has("-") else read_term(words, names)
    many = 1
    while words.word() in SIGNS:
        if words.take() == "-":
            told = told - read_term(words, names)
        else:
            told = told + read_term(words, names)
        many += 1
    return told, many


def read_sum_in_brackets(words, names):
    words.must_have("(")
    told = read_sum(words, names)[0]
    words.must_have(")")
    return told


def read_place_words(words, names):
    """A place: (sum, divisor)."""
    if words.word() == "(":
        told = read_sum_in_brackets(words, names)
        words.must_have("//")
        return told, words.number_word()
    told, many = read_sum(words, names)
    if many == 1 and words.has("//"):
        return told, words.number_word()
    return told, 1


def read_condition(words):
    """A condition: ("least", sum) or ("rest", sum, modulus, rest)."""
    if words.word() == "(":
        told = read_sum_in_brackets(words, ("i", "n"))
        words.must_have("mod")
        return read_rest(words, told)
    left, many = read_sum(words, ("i", "n"))
    if many == 1 and words.has("mod"):
        return read_rest(words, left)
    if words.word() not in COMPARISONS:
        words.refuse()
    comparison = words.take()
    right = read_sum(words, ("i", "n"))[0]
    difference = left - right if comparison in (">=", ">") else right - left
    return ("least", difference if comparison in (">=", "<=") else difference - 1)


def read_rest(words, told):
    modulus = words.number_word()
    words.must_have("==")
    return ("rest", told, modulus, words.number_word())


def read_conditions(words):
    told = []
    if words.has("if"):
        told.append(read_condition(words))
        while words.has("and"):
            told.append(read_condition(words))
        words.must_have(":")
    return told


def read_item(words, sign):
    """A number or a read, with its sign: (number, None) or (factor, (array, place))."""
    factor = 1
    if words.word() != "" and words.word()[0] in DIGITS:
        factor = words.number_word()
        if not words.has("*"):
            return sign * factor, None
    array = words.array_word()
    words.must_have("[")
    place = read_place_words(words, ("i", "n"))
    words.must_have("]")
    return sign * factor, (array, place)


def read_statement_line(words):
    """(conditions, array, cell, items)."""
    conditions = read_conditions(words)
    array = words.array_word()
    words.must_have("[")
    cell = read_sum(words, ("i", "n"))[0]
    words.must_have("]")
    words.must_have("=")
    items = [read_item(words, -1 if words.has("-") else 1)]
    while words.word() in SIGNS:
        items.append(read_item(words, -1 if words.take() == "-" else 1))
    words.must_have("")
    return conditions, array, cell, items


def read_loop_line(words):
    """(low, high, step, down)."""
    words.must_have("for")
    words.must_have("i")
    words.must_have("from")
    low = read_place_words(words, ("n",))
    words.must_have("below")
    high = read_place_words(words, ("n",))
    step = words.number_word() if words.has("by") else 1
    down = words.has("down")
    words.must_have(":")
    words.must_have("")
    return low, high, step, down
