"""[7] to [10]: members of sets, and how sets of one number go on."""

import itertools
import random
import unittest

from loopsize.digitsets import both, digit_set, either, is_none, left_out, others, put_in, widened, without
from loopsize.errors import TooFar, TooLarge
from loopsize.members import greatest_of, is_finite, least_of, next_of, tail_of
from tests.plain import numbers_set, plain_cases, random_cases, random_sets, small_rows

ALL = digit_set(1, ((),))
DOUBLES = digit_set(2, ((("is", (1, -2), 0),),))


def doubled(s):
    """The set of the numbers that are twice those of a set."""
    return left_out(both(DOUBLES, widened(s, 0)), 1)


def moved(s, shift):
    """The set of the numbers that are by a shift greater than those of a set."""
    return left_out(both(digit_set(2, ((("is", (1, -1), shift),),)), widened(s, 0)), 1)


def multiples(power):
    """The multiples of 2 ** power."""
    told = ALL
    for _ in range(power):
        told = doubled(told)
    return told


def from_on(number):
    return put_in(digit_set(2, ((("least", (1, -1), 0),),)), 1, number)


def plain_tail(truths, far):
    """The tail of a set by plain counting, from the truths for its numbers; it goes on from far at the latest."""
    for period in range(1, far):
        if all(truths[n] == truths[n + period] for n in range(far, len(truths) - period)):
            unlike = [n for n in range(far) if truths[n] != truths[n + period]]
            start = unlike[-1] + 1 if unlike else 0
            rests = sorted(n % period for n in range(far, far + period) if truths[n])
            return start, period, tuple(rests), tuple(n for n in range(start) if truths[n])
    return None


def one_number_sets(seed, many):
    """Sets of arity 1 that are made of random sets."""
    chance = random.Random(seed)
    told = []
    for arity, cases, s in random_sets(seed, many, arities=(1, 2, 3), make=lambda c, a: random_cases(c, a, 5, 40)):
        try:
            while s.arity > 1:
                s = left_out(s, chance.randrange(s.arity))
            told.append(others(s) if chance.random() < 0.3 else s)
        except TooLarge:
            continue
    return told


class LeastTest(unittest.TestCase):
    def test_examples(self):
        s = digit_set(2, ((("is", (-1, 2), -3),),))
        self.assertEqual(least_of(s), (3, 0))
        self.assertEqual(next_of(s, 10 ** 30), (10 ** 30 + 1, (10 ** 30 - 2) // 2))
        self.assertEqual([least_of(digit_set(arity, ())) for arity in (1, 2, 3, 4)], [None] * 4)
        self.assertEqual(next_of(digit_set(2, ()), 5), None)

    def test_tuples_also_for_one_number(self):
        self.assertEqual(least_of(numbers_set(4, 7)), (4,))
        self.assertEqual([next_of(numbers_set(4, 7), low) for low in (0, 4, 5, 7, 8)], [(4,), (4,), (7,), (7,), None])
        self.assertIsInstance(least_of(ALL), tuple)
        self.assertEqual(next_of(a=ALL, low=10 ** 30), (10 ** 30,))
        self.assertEqual(least_of(a=digit_set(4, ((),))), (0, 0, 0, 0))

    def test_against_plain_counting(self):
        bounds = {1: 100, 2: 20, 3: 9, 4: 6}
        for arity, cases, s in random_sets(21, 150):
            bound = bounds[arity]
            rows = [row for row in small_rows(arity, bound) if plain_cases(cases, row)]
            for low in (0, 1, 2, 3, bound // 2, bound - 1):
                found = next_of(s, low)
                wanted = [row for row in rows if row[0] >= low]
                if found is None:
                    self.assertEqual(wanted, [], cases)
                    continue
                self.assertTrue(plain_cases(cases, found) and found[0] >= low, cases)
                if max(found) < bound:
                    self.assertEqual(found, wanted[0], cases)
                elif wanted:
                    self.assertLess(found, wanted[0], cases)
            self.assertEqual(least_of(s), next_of(s, 0))

    def test_nothing_lies_ahead_of_the_row_that_is_told(self):
        for arity, cases, s in random_sets(22, 80, arities=(2, 3)):
            low = 10 ** 6 + 1
            found = next_of(s, low)
            try:
                if found is None:
                    self.assertTrue(is_finite(first_numbers(s)), cases)
                    continue
                self.assertTrue(plain_cases(cases, found), cases)
                self.assertTrue(is_none(both(s, rows_between(s.arity, low, found[0] - 1))), cases)
                self.assertEqual(least_of(put_in(s, 0, found[0])), found[1:])
            except TooLarge:
                continue

    def test_great_first_numbers(self):
        self.assertEqual(least_of(from_on(10 ** 30)), (10 ** 30,))
        self.assertEqual(next_of(from_on(10 ** 30), 10 ** 31 + 7), (10 ** 31 + 7,))
        s = digit_set(2, ((("is", (1, -8), 5), ("rest", (0, 1), 11, (7,))),))
        found = next_of(s, 10 ** 29)[0]
        self.assertEqual(found % 88, 8 * 7 + 5)
        self.assertTrue(0 <= found - 10 ** 29 < 88)


    def test_sets_that_would_be_too_large_are_gone_through(self):
        s = digit_set(2, (
            (("rest", (0, 1), 2, (0,)), ("rest", (1, 0), 23, (7,))),
            (("rest", (0, 1), 2, (1,)), ("rest", (1, 0), 19, (5,))),
        ))
        with self.assertRaises(TooLarge):
            left_out(s, 1)
        self.assertEqual(least_of(s), (5, 1))
        self.assertEqual([next_of(s, low) for low in (6, 8, 25, 23 * 10 ** 20)],
                         [(7, 0), (24, 1), (30, 0), next_of(s, 23 * 10 ** 20)])
        self.assertTrue(next_of(s, 23 * 10 ** 20) in s)


def first_numbers(s):
    while s.arity > 1:
        s = left_out(s, s.arity - 1)
    return s


def rows_between(arity, low, high):
    """The rows whose first number is from low to high."""
    told = without(from_on(low), from_on(high + 1))
    while told.arity < arity:
        told = widened(told, told.arity)
    return told


class GreatestTest(unittest.TestCase):
    def test_examples(self):
        self.assertEqual(greatest_of(numbers_set(4, 7)), 7)
        self.assertIs(is_finite(numbers_set(4, 7)), True)
        self.assertEqual(greatest_of(digit_set(1, ())), None)
        self.assertIs(is_finite(digit_set(1, ())), True)
        self.assertEqual(greatest_of(ALL), None)
        self.assertIs(is_finite(ALL), False)
        self.assertEqual(greatest_of(numbers_set(0)), 0)
        self.assertIs(is_finite(a=multiples(9)), False)
        self.assertEqual(greatest_of(a=others(from_on(10 ** 30))), 10 ** 30 - 1)

    def test_against_plain_counting(self):
        for s in one_number_sets(23, 100):
            inside = [n for n in range(3000) if n in s]
            finite = not [n for n in inside if n > 1500]
            self.assertIs(is_finite(s), finite)
            self.assertEqual(greatest_of(s), inside[-1] if inside and finite else None)


class TailTest(unittest.TestCase):
    def test_examples(self):
        s = digit_set(2, ((("is", (-1, 2), -3),),))
        self.assertEqual(tail_of(left_out(s, 1)), (2, 2, (1,), ()))
        self.assertEqual(tail_of(left_out(s, 0)), (0, 1, (0,), ()))
        self.assertEqual(tail_of(numbers_set(4, 7)), (8, 1, (), (4, 7)))
        self.assertEqual(tail_of(digit_set(1, ())), (0, 1, (), ()))
        self.assertEqual(tail_of(a=ALL), (0, 1, (0,), ()))

    def test_against_plain_counting(self):
        for s in one_number_sets(24, 120):
            truths = [n in s for n in range(3000)]
            self.assertEqual(tail_of(s), plain_tail(truths, 1500))

    def test_finite_exactly_if_there_are_no_rests(self):
        for s in one_number_sets(25, 60):
            self.assertEqual(is_finite(s), tail_of(s)[2] == ())

    def test_products_of_periods(self):
        for m, other in itertools.product((2, 3, 5, 8, 9), (4, 6, 7, 12)):
            s = either(digit_set(1, ((("rest", (1,), m, (0,)),),)), digit_set(1, ((("rest", (1,), other, (1, 2)),),)))
            truths = [n in s for n in range(400)]
            self.assertEqual(tail_of(s), plain_tail(truths, 150))

    def test_the_last_period_that_is_told(self):
        self.assertEqual(tail_of(multiples(11)), (0, 2048, (0,), ()))
        with self.assertRaises(TooFar) as caught:
            tail_of(multiples(12))
        self.assertEqual((caught.exception.what, caught.exception.limit), ("period", 2048))
        with self.assertRaises(TooFar):
            tail_of(others(multiples(50)))

    def test_the_last_start_that_is_told(self):
        self.assertEqual(tail_of(from_on(10000)), (10000, 1, (0,), ()))
        self.assertEqual(tail_of(others(from_on(10000))), (10000, 1, (), tuple(range(10000))))
        for number in (10001, 16384, 10 ** 30):
            with self.assertRaises(TooFar) as caught:
                tail_of(from_on(number))
            self.assertEqual((caught.exception.what, caught.exception.limit), ("start", 10000))

    def test_a_period_that_is_too_great_comes_first(self):
        s = both(multiples(12), from_on(10 ** 30))
        with self.assertRaises(TooFar) as caught:
            tail_of(s)
        self.assertEqual(caught.exception.what, "period")
        with self.assertRaises(TooFar) as caught:
            tail_of(both(multiples(11), from_on(10 ** 30)))
        self.assertEqual(caught.exception.what, "start")

    def test_the_start_is_the_least_for_the_period(self):
        self.assertEqual(tail_of(moved(multiples(5), 3200))[:3], (3169, 32, (0,)))
        self.assertEqual(tail_of(moved(multiples(10), 9000)), (7977, 1024, (808,), ()))
        s = either(moved(multiples(3), 100), numbers_set(4, 92))
        self.assertEqual(tail_of(s), (85, 8, (4,), (4,)))

    def test_great_odd_periods(self):
        s = digit_set(1, ((("rest", (1,), 19, (5,)), ("rest", (1,), 17, (3,))),))
        truths = [n in s for n in range(2000)]
        self.assertEqual(tail_of(s), plain_tail(truths, 1000))
        self.assertEqual(tail_of(s)[1], 323)
        s = digit_set(1, ((("rest", (1,), 23, (5,)), ("rest", (1,), 16, (3,))),))
        self.assertEqual(tail_of(s)[:2], (0, 368))


if __name__ == "__main__":
    unittest.main()
