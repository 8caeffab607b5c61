"""What the document says by plain words, told by plain counting: the tests hold the package against it."""

import itertools
import random

from loopsize.digitsets import digit_set
from loopsize.errors import LoopError

BELOW = (("least", (1, -1), 1),)
HALF = (("least", (-1, 2), -1), ("least", (1, -1), 1))


def plain_condition(condition, row):
    total = sum(factor * number for factor, number in zip(condition[1], row))
    if condition[0] == "is":
        return total == condition[2]
    if condition[0] == "least":
        return total >= condition[2]
    return total % condition[2] in condition[3]


def plain_cases(cases, row):
    return any(all(plain_condition(condition, row) for condition in case) for case in cases)


def small_rows(arity, bound):
    return itertools.product(range(bound), repeat=arity)


def random_condition(chance, arity, factor, number):
    kind = chance.choice(["is", "least", "least", "rest"])
    factors = tuple(chance.randint(-factor, factor) for _ in range(arity))
    if kind == "rest":
        m = chance.randint(1, 6)
        return kind, factors, m, tuple(chance.randint(-1, m) for _ in range(chance.randint(0, 3)))
    return kind, factors, chance.randint(-number, number)


def random_cases(chance, arity, factor=4, number=9):
    cases = []
    for _ in range(chance.randint(0, 3)):
        cases.append(tuple(random_condition(chance, arity, factor, number) for _ in range(chance.randint(0, 2))))
    return tuple(cases)


def bounded_cases(chance, arity):
    """Cases for which finitely many rows begin with each number."""
    cases = []
    for _ in range(chance.randint(1, 2)):
        case = [random_condition(chance, arity, 3, 9) for _ in range(chance.randint(0, 2))]
        for place in range(1, arity):
            factors = [0] * arity
            factors[0] = chance.randint(1, 2)
            factors[place] = -chance.randint(1, 2)
            case.append(("least", tuple(factors), chance.randint(-2, 2)))
        cases.append(tuple(case))
    return tuple(cases)


def random_sets(seed, many, arities=(1, 2, 3, 4), make=random_cases):
    """Triples (arity, cases, set) for random cases; those whose machine is too large are left out."""
    chance = random.Random(seed)
    told = []
    while len(told) < many:
        arity = chance.choice(arities)
        cases = make(chance, arity)
        try:
            told.append((arity, cases, digit_set(arity, cases)))
        except LoopError:
            continue
    return told


def numbers_set(*numbers):
    """The set of these numbers alone."""
    return digit_set(1, tuple((("is", (1,), number),) for number in numbers))
