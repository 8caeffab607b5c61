"""[15] to [18]: formulas of counts."""

import random
import unittest
from math import comb

from loopsize.counts import composed, count_of, sum_of, total_below
from loopsize.digitsets import both, digit_set, put_in, widened
from loopsize.errors import BadNumber, TooFar, TooLarge, TooMany
from loopsize.formulas import Formula, count_from, first_above, formula_of, peak_of
from tests.plain import BELOW, HALF, bounded_cases, numbers_set, random_sets
from tests.test_members import from_on, moved, multiples

A = count_of(digit_set(2, (BELOW,)))
H = count_of(digit_set(2, (HALF,)))


def parts(formula):
    return formula.rows, formula.start, formula.early


def pair_count(*case):
    return count_of(digit_set(2, (case,)))


def rest_count(*pairs):
    """The count of the numbers that have all these rests: pairs (m, rest)."""
    return count_of(digit_set(1, (tuple(("rest", (1,), m, (rest,)) for m, rest in pairs),)))


def random_formula(chance, periods=12, lengths=4, size=9):
    period = chance.randint(1, periods)
    rows = [[chance.randint(-size, size) for _ in range(chance.randint(1, lengths))] for _ in range(period)]
    return [chance.randint(-size, size) for _ in range(chance.randint(0, 12))], rows


def plain_value(early, rows, n):
    """What [15] and [16] say of the value at n."""
    if n < len(early):
        return early[n]
    row, t = rows[n % len(rows)], n // len(rows)
    return sum(w * comb(t, j) for j, w in enumerate(row))


class ExamplesTest(unittest.TestCase):
    def test_examples(self):
        self.assertEqual(parts(formula_of(A)), (((0, 1),), 0, ()))
        self.assertEqual(parts(formula_of(total_below(A))), (((0, 0, 1),), 0, ()))
        self.assertEqual(parts(formula_of(H)), (((0, 1), (1, 1)), 0, ()))
        self.assertEqual(formula_of(H).period, 2)
        self.assertEqual(first_above(H, A), None)
        self.assertEqual(peak_of(H - A), (0, 0))
        late = formula_of(pair_count(("least", (0, 1), 3), ("least", (1, -1), 1)))
        self.assertEqual(parts(late), (((-3, 1),), 3, (0, 0, 0)))
        self.assertEqual([late(3), late(2)], [0, -1])
        even = formula_of(pair_count(("rest", (1, 2), 2, (0,)), ("least", (1, -1), 1)))
        self.assertEqual((even.rows, even.start), (((0, 2), (0, 0)), 0))
        steep = pair_count(("least", (5, -1), 0))
        self.assertEqual((formula_of(steep).rows, steep(1)), (((1, 5),), 6))
        seven = count_from((7,), ((1,),))
        self.assertEqual([seven(n) for n in range(4)], [7, 1, 1, 1])
        self.assertEqual(parts(formula_of(seven)), (((1,),), 1, (7,)))
        self.assertEqual(peak_of(seven), (7, 0))
        self.assertEqual((3 * A - 1)(0), -1)
        self.assertEqual(formula_of(3 * A - 1).rows, ((-1, 3),))
        self.assertEqual([composed(H, 2, 3)(n) for n in range(30)], [n + 2 for n in range(30)])


class FormulaTest(unittest.TestCase):
    def counts(self):
        told = [count_of(s) for _, _, s in random_sets(51, 60, arities=(1, 2, 2, 3), make=bounded_cases)]
        return told + [total_below(count) for count in told[:10]] + [one - two for one, two in zip(told, told[1:10])]

    def test_values_behind_the_start_and_ahead_of_it(self):
        for count in self.counts():
            formula = formula_of(count)
            self.assertEqual(formula.early, tuple(count(n) for n in range(formula.start)))
            for n in list(range(formula.start, formula.start + 80)) + [10 ** 30 + k for k in range(3)]:
                self.assertEqual(formula(n), count(n))
            if formula.start:
                self.assertNotEqual(formula(formula.start - 1), count(formula.start - 1))

    def test_no_lesser_period_and_length(self):
        for count in self.counts():
            formula = formula_of(count)
            length = len(formula.rows[0])
            self.assertTrue(all(len(row) == length for row in formula.rows))
            self.assertTrue(length == 1 or any(row[-1] for row in formula.rows))
            for period in range(1, formula.period):
                values = [formula(n) for n in range((length + 2) * formula.period * 2)]
                for _ in range(length):
                    values = [high - low for low, high in zip(values, values[period:])]
                self.assertTrue(any(values))

    def test_kinds(self):
        formula = formula_of(count=H)
        self.assertIsInstance(formula, Formula)
        self.assertIsInstance(formula.rows, tuple)
        self.assertIsInstance(formula.rows[0], tuple)
        self.assertIsInstance(formula.early, tuple)
        self.assertEqual(formula(n=5), 3)

    def test_the_count_that_is_0_everywhere(self):
        self.assertEqual(parts(formula_of(sum_of(()))), (((0,),), 0, ()))
        self.assertEqual(parts(formula_of(count_from((0, 0, 5), ((0,),)))), (((0,),), 3, (0, 0, 5)))

    def test_equal_formulas(self):
        self.assertTrue(formula_of(A) == formula_of(A + 0))
        self.assertFalse(formula_of(A) == formula_of(H))
        self.assertTrue(formula_of(A) != formula_of(A + numbers_count(4)))
        self.assertFalse(formula_of(count_from((1,), ((0,),))) == formula_of(count_from((2,), ((0,),))))
        for value in (None, 0, parts(formula_of(A)), A, ((0, 1),)):
            self.assertIs(formula_of(A) == value, False)

    def test_the_last_period_that_is_told(self):
        formula = formula_of(rest_count((12, 5), (5, 3)))
        self.assertEqual(formula.rows, tuple((1 if n == 53 else 0,) for n in range(60)))
        for pairs in (((23, 0), (3, 1)), ((16, 0), (5, 1)), ((8, 3), (9, 2))):
            with self.assertRaises(TooFar) as caught:
                formula_of(rest_count(*pairs))
            self.assertEqual((caught.exception.what, caught.exception.limit), ("period", 60))

    def test_periods_that_can_be_seen_late_alone(self):
        for s in (multiples(50), moved(multiples(13), 7000), multiples(6)):
            with self.assertRaises(TooFar) as caught:
                formula_of(count_of(s))
            self.assertEqual(caught.exception.what, "period")
        self.assertEqual(formula_of(count_of(multiples(5))).period, 32)

    def test_the_last_start_that_is_told(self):
        formula = formula_of(count_of(from_on(10000)))
        self.assertEqual((formula.rows, formula.start, formula.early), (((1,),), 10000, (0,) * 10000))
        for number in (10001, 16383, 16384, 32768, 10 ** 9):
            with self.assertRaises(TooFar) as caught:
                formula_of(count_of(from_on(number)))
            self.assertEqual((caught.exception.what, caught.exception.limit), ("start", 10000))

    def test_a_period_that_is_too_great_comes_first(self):
        for s, what in ((both(multiples(6), from_on(10 ** 9)), "period"), (both(multiples(5), from_on(10 ** 9)), "start"),
                        (moved(multiples(10), 20000), "period"), (moved(multiples(5), 10500), "start")):
            with self.assertRaises(TooFar) as caught:
                formula_of(count_of(s))
            self.assertEqual(caught.exception.what, what)
        self.assertEqual(formula_of(count_of(moved(multiples(5), 9500))).start, 9500 - 31)

    def test_long_rows(self):
        count = A
        for length in range(3, 8):
            count = total_below(count)
            self.assertEqual(formula_of(count).rows, ((0,) * (length - 1) + (1,),))

    def test_facts(self):
        for arity, _, s in random_sets(52, 30, arities=(1, 2), make=bounded_cases):
            self.assertLessEqual(len(formula_of(count_of(s)).rows[0]), arity)
        for count in self.counts():
            formula = formula_of(count)
            many = {count(n) for n in range(formula.start, formula.start + 40 * formula.period)}
            self.assertEqual(len(formula.rows[0]) == 1, len(many) <= formula.period)


def numbers_count(*numbers):
    return count_of(numbers_set(*numbers))


class CountFromTest(unittest.TestCase):
    def test_values(self):
        chance = random.Random(53)
        for _ in range(60):
            early, rows = random_formula(chance)
            count = count_from(early, rows)
            self.assertEqual([count(n) for n in range(80)], [plain_value(early, rows, n) for n in range(80)])
            n = 10 ** 30 + chance.randint(0, 99)
            self.assertEqual(count(n), plain_value(early, rows, n))

    def test_numbers_of_forty_digits(self):
        big = 10 ** 40 - 1
        early, rows = (big, -big, 0), ((big, -big, 1), (5,), (-big, 0, 0, big, big))
        count = count_from(early=early, rows=rows)
        for n in (0, 1, 2, 3, 100, 10 ** 30):
            self.assertEqual(count(n), plain_value(early, rows, n))
        self.assertEqual(formula_of(count).rows, ((big, -big, 1, 0, 0), (5, 0, 0, 0, 0), (-big, 0, 0, big, big)))

    def test_back_from_the_formula(self):
        for _, _, s in random_sets(54, 50, arities=(1, 2, 3), make=bounded_cases):
            count = count_of(s)
            formula = formula_of(count)
            if formula.start <= 60:
                self.assertTrue(count_from(formula.early, formula.rows) == count)
        chance = random.Random(55)
        for _ in range(40):
            count = count_from(*random_formula(chance, lengths=5))
            formula = formula_of(count)
            self.assertTrue(count_from(formula.early, formula.rows) == count)

    def test_rows_that_can_be_told_with_less(self):
        formula = formula_of(count_from((3, 4), ((2, 0), (2, 0, 0), (2,))))
        self.assertEqual(parts(formula), (((2,),), 2, (3, 4)))
        self.assertEqual(parts(formula_of(count_from((0, 1, 2), ((0, 2), (1, 2))))), (((0, 1),), 0, ()))
        self.assertEqual(parts(formula_of(count_from((0, 9, 2), ((0, 1),)))), (((0, 1),), 2, (0, 9)))

    def test_bounds(self):
        self.assertEqual(formula_of(count_from((), tuple((k,) for k in range(60)))).period, 60)
        count = count_from(tuple(range(60)), ((0,),))
        self.assertEqual((formula_of(count).start, count(59), count(60)), (60, 59, 0))
        for many in (0, 61, 100):
            with self.assertRaises(BadNumber) as caught:
                count_from(tuple(range(61)), ((1,),) * many)
            self.assertEqual((caught.exception.what, caught.exception.number), ("rows", many))
        with self.assertRaises(TooMany) as caught:
            count_from(tuple(range(61)), ((1,),))
        error = caught.exception
        self.assertEqual((error.what, error.many, error.limit), ("early", 61, 60))

    def test_nothing_that_is_passed_is_changed(self):
        early, rows = [1, 2], [[1], [2, 3]]
        count_from(early, rows)
        self.assertEqual((early, rows), ([1, 2], [[1], [2, 3]]))


class FirstAboveTest(unittest.TestCase):
    def test_against_plain_counting(self):
        chance = random.Random(56)
        for _ in range(80):
            first, second = random_formula(chance, periods=6), random_formula(chance, periods=6)
            one, other = count_from(*first), count_from(*second)
            above = [n for n in range(600) if plain_value(*first, n) > plain_value(*second, n)]
            found = first_above(one, other)
            if above:
                self.assertEqual(found, above[0])
            elif found is not None:
                self.assertTrue(found >= 600 and one(found) > other(found))

    def test_great_numbers(self):
        big = 10 ** 30
        line = count_from((), ((0, 1),))
        self.assertEqual(first_above(line, count_from((), ((big,),))), big + 1)
        self.assertEqual(first_above(a=line * line, b=line * big), big + 1)
        self.assertEqual(first_above(line * big, line * line), 1)
        hill = count_from((), ((-1, 2 * big, -2),))
        self.assertEqual(first_above(hill, line * 0), 1)
        valley = (line - big) * (line - big - 10)
        self.assertEqual(first_above(-valley, line * 0), big + 1)
        self.assertEqual(first_above(-((line - big) * (line - big - 1)), line * 0), None)
        self.assertEqual(first_above(-((line - big) * (line - big)) + 1, line * 0), big)
        self.assertEqual(first_above(count_from((0, 0, 1), ((-5,),)), line * 0), 2)

    def test_errors_of_formula_of(self):
        with self.assertRaises(TooFar) as caught:
            first_above(A + rest_count((23, 0), (3, 1)), A * 0)
        self.assertEqual(caught.exception.what, "period")
        with self.assertRaises(TooFar) as caught:
            first_above(A, count_of(from_on(10001)))
        self.assertEqual(caught.exception.what, "start")
        late = count_of(from_on(10001))
        self.assertEqual(first_above(A + late, late), 1)


class PeakTest(unittest.TestCase):
    def test_against_plain_counting(self):
        chance = random.Random(57)
        seen = 0
        for _ in range(120):
            early, rows = random_formula(chance, periods=6)
            count = count_from(early, rows)
            told = [plain_value(early, rows, n) for n in range(600)]
            found = peak_of(count)
            if found is None:
                self.assertGreaterEqual(max(told[300:]), max(told[:100]))
                self.assertGreater(max(count(n) for n in range(10 ** 6, 10 ** 6 + 12)), max(told[:300]))
            else:
                seen += 1
                self.assertEqual(found, (max(told), told.index(max(told))))
        self.assertGreater(seen, 30)

    def test_great_numbers(self):
        big = 10 ** 30
        line = count_from((), ((0, 1),))
        self.assertEqual(peak_of(line * (2 * big - line)), (big * big, big))
        self.assertEqual(peak_of((line - 1) * (2 * big - line)), (big * big - big, big))
        self.assertEqual(peak_of(count=-line), (0, 0))
        self.assertEqual(peak_of(line), None)
        self.assertEqual(peak_of(count_from((1, 9, 9), ((9,), (-5, -1)))), (9, 1))
        self.assertEqual(peak_of(line * 0), (0, 0))
        self.assertEqual(peak_of(line * 0 - 7), (-7, 0))
        self.assertEqual(peak_of(count_from((), ((3, -1), (2, 1)))), None)

    def test_errors_of_formula_of(self):
        for count, what in ((rest_count((23, 0), (3, 1)), "period"), (count_of(from_on(10001)), "start")):
            with self.assertRaises(TooFar) as caught:
                peak_of(count)
            self.assertEqual(caught.exception.what, what)


class LargeSetsTest(unittest.TestCase):
    def test_counts_of_sets_whose_sums_would_be_too_large(self):
        one = digit_set(1, ((("rest", (1,), 23, (0,)),),))
        other = digit_set(1, ((("rest", (1,), 19, (0,)),),))
        with self.assertRaises(TooLarge):
            both(one, other)
        product = count_of(one) * 0 + count_of(other) - 1
        self.assertEqual(peak_of(product), (0, 0))
        self.assertEqual(first_above(product, product), None)
        self.assertEqual(count_of(put_in(widened(one, 0), 0, 10 ** 30)), count_of(one))


if __name__ == "__main__":
    unittest.main()
