"""[21]: conditions."""

import itertools
import random
import unittest

from loopsize.conditions import AtLeast, Rest
from loopsize.errors import BadNumber
from loopsize.straights import Straight
from tests.test_straights import BIG, random_straight, triple

POINTS = ((0, 0), (1, 0), (0, 1), (7, 5), (5, 7), (-4, 3), (BIG, BIG - 1), (3, BIG))


class AtLeastTest(unittest.TestCase):
    def test_holds_and_replaced(self):
        chance = random.Random(63)
        for _ in range(200):
            straight = random_straight(chance)
            condition = AtLeast(straight)
            for i, n in POINTS:
                self.assertIs(condition.holds(i, n), straight(i, n) >= 0)
                self.assertIs(condition.replaced(-2, 9).holds(i=i, n=n), straight(9 - 2 * i, n) >= 0)
            self.assertIsInstance(condition.replaced(factor=1, shift=2), AtLeast)

    def test_least_form(self):
        for straight, wanted in ((Straight(2, 0, -3), (1, 0, -2)), (Straight(-4, 6, 5), (-2, 3, 2)),
                                 (Straight(-4, 6, -5), (-2, 3, -3)), (Straight(3, 1, 100), (3, 1, 100)),
                                 (Straight(0, 0, 17), (0, 0, 0)), (Straight(0, 0, 0), (0, 0, 0)),
                                 (Straight(0, 0, -17), (0, 0, -1)), (Straight(0, -5, 5), (0, -1, 1)),
                                 (5, (0, 0, 0)), (-5, (0, 0, -1)), (Straight(0, 0, -BIG), (0, 0, -1))):
            self.assertEqual(triple(AtLeast(straight=straight).straight), wanted)


class RestTest(unittest.TestCase):
    def test_holds_and_replaced(self):
        chance = random.Random(64)
        for modulus in (2, 3, 4):
            for rest in range(modulus):
                for _ in range(30):
                    straight = random_straight(chance)
                    condition = Rest(straight, modulus, rest)
                    for i, n in POINTS:
                        self.assertIs(condition.holds(i, n), straight(i, n) % modulus == rest)
                        self.assertIs(condition.replaced(3, -5).holds(i, n), straight(3 * i - 5, n) % modulus == rest)
                    self.assertIsInstance(condition.replaced(1, 2), Rest)

    def test_least_form(self):
        i, n = Straight(1, 0, 0), Straight(0, 1, 0)
        told = Rest(5 * i - n + 4, 3, 0)
        self.assertEqual([told.rest, told.straight == 2 * i + 2 * n, told.modulus], [2, True, 3])
        for a, b, c, modulus in itertools.product((-7, 0, 4), (-1, 5), (-6, 0, 3), (2, 3, 4)):
            told = Rest(straight=Straight(a, b, c), modulus=modulus, rest=1)
            self.assertEqual(triple(told.straight), (a % modulus, b % modulus, 0))
            self.assertEqual(told.rest, (1 - c) % modulus)
        told = Rest(7, 4, 1)
        self.assertEqual((triple(told.straight), told.modulus, told.rest), ((0, 0, 0), 4, 2))

    def test_bad_numbers(self):
        for modulus in (1, 0, -2, 5, BIG):
            with self.assertRaises(BadNumber) as caught:
                Rest(Straight(1, 0, 0), modulus, 9)
            self.assertEqual((caught.exception.what, caught.exception.number), ("modulus", modulus))
        for modulus in (2, 3, 4):
            for rest in (-1, modulus, BIG):
                with self.assertRaises(BadNumber) as caught:
                    Rest(Straight(1, 0, 0), modulus, rest)
                self.assertEqual((caught.exception.what, caught.exception.number), ("rest", rest))

    def test_example(self):
        self.assertTrue(AtLeast(2 * Straight(1, 0, 0) - 3).straight == Straight(1, 0, -2))


if __name__ == "__main__":
    unittest.main()
