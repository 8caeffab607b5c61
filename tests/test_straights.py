"""[19] and [20]: straight sums and places."""

import itertools
import random
import unittest

from loopsize.errors import BadNumber
from loopsize.straights import Place, Straight

BIG = 10 ** 30


def triple(straight):
    return straight.i, straight.n, straight.one


def random_straight(chance, size=20):
    return Straight(*[chance.choice([chance.randint(-size, size), chance.randint(-BIG, BIG)]) for _ in range(3)])


class StraightTest(unittest.TestCase):
    def test_attributes_and_value(self):
        told = Straight(2, -3, 7)
        self.assertEqual(triple(told), (2, -3, 7))
        self.assertEqual([told(0, 0), told(5, 2), told(-4, 1)], [7, 11, -4])
        self.assertEqual(Straight(i=-1, n=BIG, one=0)(i=BIG, n=BIG), BIG * BIG - BIG)

    def test_arithmetic(self):
        chance = random.Random(61)
        for _ in range(60):
            one, other, k = random_straight(chance), random_straight(chance), chance.randint(-9, 9)
            for i, n in ((0, 0), (1, 0), (0, 1), (-3, 5), (BIG, BIG - 1)):
                self.assertEqual((one + other)(i, n), one(i, n) + other(i, n))
                self.assertEqual((one - other)(i, n), one(i, n) - other(i, n))
                self.assertEqual((one + k)(i, n), one(i, n) + k)
                self.assertEqual((k + one)(i, n), one(i, n) + k)
                self.assertEqual((one - k)(i, n), one(i, n) - k)
                self.assertEqual((k - one)(i, n), k - one(i, n))
                self.assertEqual((-one)(i, n), -one(i, n))
                self.assertEqual((one * k)(i, n), one(i, n) * k)
                self.assertEqual((k * one)(i, n), one(i, n) * k)
                self.assertEqual(one.replaced(k, -7)(i, n), one(k * i - 7, n))
                self.assertEqual(one.replaced(factor=k, shift=BIG)(i, n), one(k * i + BIG, n))

    def test_kinds(self):
        told = Straight(1, 2, 3)
        for value in (told + told, told + 1, 1 + told, told - told, told - 1, 1 - told, -told, told * 2, 2 * told,
                      told.replaced(1, 1)):
            self.assertIsInstance(value, Straight)
        self.assertIsInstance(told // 2, Place)
        self.assertEqual(triple(told), (1, 2, 3))

    def test_equal(self):
        self.assertIs(Straight(1, 2, 3) == Straight(1, 2, 3), True)
        self.assertIs(Straight(1, 2, 3) != Straight(1, 2, 3), False)
        for other in (Straight(0, 2, 3), Straight(1, 0, 3), Straight(1, 2, 0)):
            self.assertIs(Straight(1, 2, 3) == other, False)
        for other in (5, (0, 0, 5), None, "5", Place(5, 1), [0, 0, 5]):
            self.assertIs(Straight(0, 0, 5) == other, False)

    def test_what_is_no_integer_is_not_added(self):
        for value in (True, None, "1", 1.5):
            for function in (lambda x: x + value, lambda x: value - x, lambda x: x // value):
                with self.assertRaises(TypeError):
                    function(Straight(1, 1, 1))
        with self.assertRaises(TypeError):
            Straight(1, 1, 1) * Straight(1, 1, 1)


class PlaceTest(unittest.TestCase):
    def test_examples(self):
        i, n = Straight(1, 0, 0), Straight(0, 1, 0)
        place = (4 * i + 2 * n - 3) // 6
        self.assertEqual([place.straight == 2 * i + n - 2, place.divisor, place(5, 1),
                          place.replaced(2, 1) == (4 * i + n) // 3], [True, 3, 3, True])

    def test_values_stay_the_same(self):
        chance = random.Random(62)
        for _ in range(200):
            straight, divisor = random_straight(chance), chance.choice([1, 2, 3, 4, 6, 12, BIG, 35])
            place = Place(straight, divisor)
            for i, n in ((0, 0), (1, 0), (0, 1), (7, 5), (BIG, BIG - 1), (-4, 3)):
                self.assertEqual(place(i, n), straight(i, n) // divisor)
                self.assertEqual(place.replaced(-3, 5)(i, n), straight(5 - 3 * i, n) // divisor)
            self.assertIsInstance(place.replaced(factor=1, shift=0), Place)
            self.assertTrue(straight // divisor == place)

    def test_least_form_exactly_if_the_values_are_the_same(self):
        places = []
        for i, n, one, divisor in itertools.product((-2, 0, 2, 3), (0, 1, 4), (-3, 0, 1, 5), (1, 2, 4)):
            places.append(Place(Straight(i, n, one), divisor))
        points = [(i, n) for i in range(9) for n in range(9)]
        tables = [[place(i, n) for i, n in points] for place in places]
        for one, table in zip(places, tables):
            for other, told in zip(places, tables):
                self.assertEqual(one == other, table == told)

    def test_attributes_are_those_of_the_least_form(self):
        place = Place(Straight(6, -12, 5), 9)
        self.assertEqual((triple(place.straight), place.divisor), ((2, -4, 1), 3))
        place = Place(Straight(6, -12, -5), 9)
        self.assertEqual((triple(place.straight), place.divisor), ((2, -4, -2), 3))
        place = Place(Straight(0, 0, -7), 3)
        self.assertEqual((triple(place.straight), place.divisor), ((0, 0, -3), 1))
        place = Place(straight=17, divisor=5)
        self.assertEqual((triple(place.straight), place.divisor, place(i=9, n=9)), ((0, 0, 3), 1, 3))
        place = Place(Straight(3, 0, 4), 3)
        self.assertEqual((triple(place.straight), place.divisor), ((1, 0, 1), 1))

    def test_bad_divisors(self):
        for divisor in (0, -1, -BIG):
            for make in (lambda: Place(Straight(1, 0, 0), divisor), lambda: Straight(1, 0, 0) // divisor,
                         lambda: Place(4, divisor)):
                with self.assertRaises(BadNumber) as caught:
                    make()
                self.assertEqual((caught.exception.what, caught.exception.number), ("divisor", divisor))

    def test_other_things_are_not_equal(self):
        place = Place(Straight(1, 0, 0), 1)
        for other in (Straight(1, 0, 0), 1, None, (place.straight, 1)):
            self.assertIs(place == other, False)
        self.assertIs(place != Place(Straight(2, 0, 1), 2), False)


if __name__ == "__main__":
    unittest.main()
