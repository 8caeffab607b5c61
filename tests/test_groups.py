"""Questions that are asked by the ten thousand: their answers by hand, and how long they take."""

import random
import time
import unittest

from loopsize.counts import count_of
from loopsize.digitsets import both, digit_set, either, left_out, others, widened, without
from loopsize.errors import TooFar, TooLarge
from loopsize.formulas import first_above, formula_of, peak_of
from loopsize.members import tail_of

SECONDS = 0.02
GROUPS = 300
PAIRS = ((7, 8), (5, 12), (7, 9), (5, 13), (3, 20), (4, 15), (3, 23), (1, 24), (2, 1), (4, 17))


def rest(m, r):
    return ("rest", (1,), m, (r,))


def numbers_with(*conditions):
    return digit_set(1, (conditions,))


def rests(m, r):
    return count_of(numbers_with(rest(m, r)))


def below(number):
    return count_of(numbers_with(("least", (-1,), 1 - number)))


class GroupsTest(unittest.TestCase):
    def refused(self, wanted, fields, function, *arguments):
        with self.assertRaises(wanted) as caught:
            function(*arguments)
        self.assertEqual(tuple(vars(caught.exception).values()), fields)

    def timed(self, groups):
        """Runs functions, one for each group, and tells whether they are fast enough."""
        before = time.process_time()
        for group in groups:
            group()
        self.assertLess((time.process_time() - before) / len(groups), SECONDS)

    def count_group(self, m, k, r, s, number):
        count = rests(m, r) * rests(k, s) + below(number)
        none = count - count
        if m * k > 60:
            for function, arguments in ((formula_of, (count,)), (first_above, (count, none)), (first_above, (none, count)),
                                        (peak_of, (count,))):
                self.refused(TooFar, ("period", 60), function, *arguments)
            return
        product = [1 if n % m == r and n % k == s else 0 for n in range(m * k + number)]
        formula = formula_of(count)
        self.assertEqual((formula.period, formula.start), (m * k, number))
        self.assertEqual(formula.rows, tuple((value,) for value in product[:m * k]))
        self.assertEqual(formula.early, tuple(value + 1 for value in product[:number]))
        first = product.index(1)
        self.assertEqual(first_above(count, none), 0 if number > 0 else first)
        self.assertIsNone(first_above(none, count))
        self.assertEqual(peak_of(count), (2, first) if first < number else (1, 0 if number > 0 else first))

    def test_formulas_of_counts_with_many_sections(self):
        chance = random.Random(111)
        groups = []
        for at in range(GROUPS):
            m, k = PAIRS[at % len(PAIRS)]
            part = (m, k, chance.randrange(m), chance.randrange(k), chance.choice([0, 1, 77, 80, chance.randint(0, 80)]))
            groups.append(lambda part=part: self.count_group(*part))
        self.timed(groups)

    def test_a_start_that_is_far(self):
        count = rests(2, 1) * rests(1, 0) + below(10000)
        before = time.process_time()
        formula = formula_of(count)
        self.assertLess(time.process_time() - before, 0.1)
        self.assertEqual((formula.rows, formula.start, formula.early[:4]), (((0,), (1,)), 10000, (1, 2, 1, 2)))

    def set_group(self, at, chance):
        number = 20000 + chance.randrange(5000)
        e = numbers_with(("least", (1,), number))
        self.refused(TooFar, ("start", 10000), tail_of, e)
        self.assertTrue(others(others(e)) == e)
        odd = left_out(digit_set(2, ((("is", (1, -64), 7),),)), 1)
        d = left_out(both(digit_set(2, ((("is", (1, -64), 5),),)), widened(odd, 0)), 1)
        if at % 4 == 0:
            self.refused(TooFar, ("period", 2048), tail_of, d)
        if at % 2 == 0:
            self.product_group(chance.randrange(17), chance.randrange(23))
        else:
            self.pair_group(chance.randrange(19), chance.randrange(23))
        x, y = chance.randrange(17), chance.randrange(19)
        pairs = digit_set(2, ((("rest", (1, 0), 17, (x,)),), (("rest", (0, 1), 19, (y,)),)))
        self.assertTrue(left_out(pairs, 1) == numbers_with())

    def product_group(self, r, s):
        a = numbers_with(rest(17, r), rest(23, s))
        self.assertEqual([a.states, others(a).states], [391, 391])
        only = [number for number in range(391) if number % 17 == r and number % 23 == s]
        self.assertEqual(tail_of(a), (0, 391, tuple(only), ()))
        self.refused(TooLarge, (400,), both, a, numbers_with(rest(3, 1)))

    def pair_group(self, r, s):
        b, c = numbers_with(rest(19, r)), numbers_with(rest(23, s))
        for function in (both, either, without):
            self.refused(TooLarge, (400,), function, b, c)
        self.refused(TooLarge, (400,), numbers_with, rest(19, r), rest(23, s))

    def test_sets_that_are_refused_and_tails_of_large_ones(self):
        chance = random.Random(112)
        self.timed([lambda at=at: self.set_group(at, chance) for at in range(GROUPS)])


if __name__ == "__main__":
    unittest.main()
