"""Straight sums of the counter and the size, and places: such sums divided and rounded down."""

from math import gcd

from loopsize.errors import BadNumber
from loopsize.kinds import is_integer


class Straight:
    """i times the counter, n times the size, and one."""

    def __init__(self, i, n, one):
        self.i = i
        self.n = n
        self.one = one

    def __call__(self, i, n):
        return value_of(self, i, n)

    def __eq__(self, other):
        return isinstance(other, Straight) and self.i == other.i and self.n == other.n and self.one == other.one

    def __add__(self, other):
        if not is_straight(other):
            return NotImplemented
        return added(self, straight_like(other), 1)

    def __radd__(self, other):
        if not is_straight(other):
            return NotImplemented
        return added(straight_like(other), self, 1)

    def __sub__(self, other):
        if not is_straight(other):
            return NotImplemented
        return added(self, straight_like(other), -1)

    def __rsub__(self, other):
        if not is_straight(other):
            return NotImplemented
        return added(straight_like(other), self, -1)

    def __neg__(self):
        return Straight(-self.i, -self.n, -self.one)

    def __mul__(self, other):
        if not is_integer(other):
            return NotImplemented
        return Straight(self.i * other, self.n * other, self.one * other)

    def __rmul__(self, other):
        if not is_integer(other):
            return NotImplemented
        return Straight(self.i * other, self.n * other, self.one * other)

    def __floordiv__(self, other):
        if not is_integer(other):
            return NotImplemented
        return Place(self, other)

    def replaced(self, factor, shift):
        """The sum with factor * i + shift in the place of the counter."""
        return replaced_straight(self, factor, shift)


class Place:
    """A straight sum divided by a positive integer and rounded down, in its least form."""

    def __init__(self, straight, divisor):
        if divisor < 1:
            raise BadNumber("divisor", divisor)
        told = straight_like(straight)
        common = gcd(gcd(told.i, told.n), divisor)
        self.straight = Straight(told.i // common, told.n // common, told.one // common)
        self.divisor = divisor // common

    def __call__(self, i, n):
        return value_of(self.straight, i, n) // self.divisor

    def __eq__(self, other):
        return isinstance(other, Place) and self.straight == other.straight and self.divisor == other.divisor

    def replaced(self, factor, shift):
        """The place with factor * i + shift in the place of the counter."""
        return Place(replaced_straight(self.straight, factor, shift), self.divisor)


def is_straight(value):
    return is_integer(value) or isinstance(value, Straight)


def straight_like(value):
    """A straight sum for a straight sum or an integer."""
    return value if isinstance(value, Straight) else Straight(0, 0, value)


def place_like(value):
    """A place for a place, a straight sum or an integer."""
    return value if isinstance(value, Place) else Place(value, 1)


def value_of(straight, i, n):
    return straight.i * i + straight.n * n + straight.one


def added(one, other, sign):
    return Straight(one.i + sign * other.i, one.n + sign * other.n, one.one + sign * other.one)


def replaced_straight(straight, factor, shift):
    return Straight(straight.i * factor, straight.n, straight.one + straight.i * shift)
