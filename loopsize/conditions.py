"""Conditions over the counter and the size."""

from math import gcd

from loopsize.errors import BadNumber
from loopsize.kinds import is_integer_from
from loopsize.straights import Straight, replaced_straight, straight_like, value_of

TOP_MODULUS = 4


class AtLeast:
    """The sum is 0 or more. Kept in its least form."""

    def __init__(self, straight):
        told = straight_like(straight)
        common = gcd(told.i, told.n)
        if common == 0:
            self.straight = Straight(0, 0, 0 if told.one >= 0 else -1)
        else:
            self.straight = Straight(told.i // common, told.n // common, told.one // common)

    def holds(self, i, n):
        return value_of(self.straight, i, n) >= 0

    def replaced(self, factor, shift):
        """The condition with factor * i + shift in the place of the counter."""
        return AtLeast(replaced_straight(self.straight, factor, shift))


class Rest:
    """The sum modulo the modulus is the rest. Kept in its least form."""

    def __init__(self, straight, modulus, rest):
        if not is_integer_from(modulus, 2, TOP_MODULUS):
            raise BadNumber("modulus", modulus)
        if not is_integer_from(rest, 0, modulus - 1):
            raise BadNumber("rest", rest)
        told = straight_like(straight)
        self.straight = Straight(told.i % modulus, told.n % modulus, 0)
        self.modulus = modulus
        self.rest = (rest - told.one) % modulus

    def holds(self, i, n):
        return value_of(self.straight, i, n) % self.modulus == self.rest

    def replaced(self, factor, shift):
        """The condition with factor * i + shift in the place of the counter."""
        return Rest(replaced_straight(self.straight, factor, shift), self.modulus, self.rest)
