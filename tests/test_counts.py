"""[11] to [14]: counts, their arithmetic, their sections and rules."""

import random
import unittest
from fractions import Fraction
from math import gcd

from loopsize.counts import Count, composed, count_of, differs_at, sum_of, total_below
from loopsize.digitsets import both, digit_set, either, left_out, put_in, reordered, widened
from loopsize.errors import BadNumber, Endless, TooLarge
from loopsize.formulas import count_from
from loopsize.members import is_finite
from tests.plain import BELOW, HALF, bounded_cases, numbers_set, plain_cases, random_cases, random_sets, small_rows

A = count_of(digit_set(2, (BELOW,)))
H = count_of(digit_set(2, (HALF,)))
TWO_WAYS = digit_set(2, (
    (("rest", (0, 1), 2, (0,)), ("rest", (1, 0), 23, (7,))),
    (("rest", (0, 1), 2, (1,)), ("rest", (1, 0), 19, (5,))),
))
BAD_INTEGERS = (-1, True, False, None, 1.0, "1", (1,), [], -(10 ** 30), object())


def sample_counts(seed, many, arities=(1, 2, 2, 3)):
    return [count_of(s) for _, _, s in random_sets(seed, many, arities=arities, make=bounded_cases)]


def values(count, many=40):
    return [count(n) for n in range(many)]


class CountOfTest(unittest.TestCase):
    def test_examples(self):
        self.assertEqual(values(A), list(range(40)))
        self.assertEqual(values(H, 7), [0, 1, 1, 2, 2, 3, 3])
        self.assertEqual(H(10 ** 30 + 1), 5 * 10 ** 29 + 1)

    def test_against_plain_counting(self):
        for arity, cases, s in random_sets(31, 120, arities=(1, 2, 3), make=bounded_cases):
            count = count_of(s)
            for n in range({1: 60, 2: 20, 3: 7}[arity]):
                # A number is at most twice the first one and 2, by the conditions that bound it.
                wanted = sum(plain_cases(cases, (n, *row)) for row in small_rows(arity - 1, 2 * n + 3))
                self.assertEqual(count(n), wanted, (cases, n))

    def test_four_numbers(self):
        case = (("least", (1, -1, 0, 0), 0), ("least", (1, 0, -1, -1), 0))
        count = count_of(digit_set(4, (case,)))
        for n in (0, 1, 2, 5, 10 ** 30):
            self.assertEqual(count(n), (n + 1) * (n + 1) * (n + 2) // 2)

    def test_one_number(self):
        count = count_of(numbers_set(0, 3, 9))
        self.assertEqual([n for n in range(30) if count(n) == 1], [0, 3, 9])
        self.assertEqual({count(n) for n in range(30)}, {0, 1})

    def test_numbers_with_more_digits_than_the_first_one(self):
        count = count_of(digit_set(2, ((("least", (5, -1), 0),),)))
        self.assertEqual(values(count), [5 * n + 1 for n in range(40)])
        count = count_of(digit_set(2, ((("least", (0, -1), -1000),),)))
        self.assertEqual(values(count), [1001] * 40)

    def test_great_values(self):
        n = 10 ** 30
        self.assertEqual(A(n), n)
        self.assertEqual((A * A)(n), n * n)
        self.assertEqual(total_below(A * A)(n), (n - 1) * n * (2 * n - 1) // 6)
        self.assertEqual(A(10 ** 300), 10 ** 300)

    def test_kind(self):
        self.assertIsInstance(A, Count)
        self.assertIsInstance(count_of(s=numbers_set(1)), Count)
        self.assertEqual(count_of(digit_set(3, ())), sum_of(()))

    def test_bad_numbers(self):
        for value in BAD_INTEGERS:
            with self.assertRaises(BadNumber) as caught:
                A(value)
            self.assertEqual((caught.exception.what, caught.exception.number), ("n", value))
            with self.assertRaises(BadNumber):
                sum_of(())(value)
        self.assertEqual(A(n=3), 3)


class EndlessTest(unittest.TestCase):
    def test_examples(self):
        cases = (((("least", (-1, 1), 0),),), 0), (((("is", (1, 0), 5),), BELOW), 5)
        for case, n in cases:
            with self.assertRaises(Endless) as caught:
                count_of(digit_set(2, case))
            self.assertEqual(caught.exception.n, n)

    def test_the_least_number(self):
        chance = random.Random(32)
        found = 0
        for _ in range(150):
            cases = random_cases(chance, 2, 3, 12) + (BELOW,)
            s = digit_set(2, cases)
            endless = [n for n in range(40) if not is_finite(put_in(s, 0, n))]
            try:
                count_of(s)
                self.assertEqual(endless, [], cases)
            except Endless as error:
                found += 1
                self.assertEqual(error.n, endless[0] if endless else error.n, cases)
                self.assertFalse(is_finite(put_in(s, 0, error.n)))
        self.assertGreater(found, 20)

    def test_a_great_least_number(self):
        rows = widened(put_in(digit_set(2, ((("least", (1, -1), 0),),)), 1, 10 ** 30), 1)
        with self.assertRaises(Endless) as caught:
            count_of(rows)
        self.assertEqual(caught.exception.n, 10 ** 30)

    def test_three_numbers(self):
        with self.assertRaises(Endless) as caught:
            count_of(digit_set(3, ((("least", (1, -1, 0), 0), ("is", (-1, 1, 0), 0), ("is", (5, 0, -1), 20)),
                                   (("is", (3, -1, 0), 1), ("least", (2, 0, 1), 30)))))
        self.assertEqual(caught.exception.n, 1)

    def test_sets_that_would_be_too_large_are_gone_through(self):
        with self.assertRaises(TooLarge):
            left_out(TWO_WAYS, 1)
        with self.assertRaises(Endless) as caught:
            count_of(TWO_WAYS)
        self.assertEqual(caught.exception.n, 5)
        few = both(TWO_WAYS, digit_set(2, ((("least", (0, -1), -1),),)))
        with self.assertRaises(TooLarge):
            left_out(few, 1)
        count = count_of(few)
        self.assertEqual(values(count, 900), [(n % 23 == 7) + (n % 19 == 5) for n in range(900)])


class ArithmeticTest(unittest.TestCase):
    def test_sums_differences_and_products(self):
        counts = sample_counts(33, 24)
        for one, other in zip(counts, counts[1:]):
            pairs = list(zip(values(one), values(other)))
            self.assertEqual(values(one + other), [x + y for x, y in pairs])
            self.assertEqual(values(one - other), [x - y for x, y in pairs])
            self.assertEqual(values(-one), [-x for x, _ in pairs])
            if len(one.sections) * len(other.sections) <= 100:
                self.assertEqual(values(one * other), [x * y for x, y in pairs])

    def test_integers_on_either_side(self):
        for count in [A, H, sum_of(())] + sample_counts(34, 6):
            for k in (0, 1, -1, 7, 10 ** 30):
                told = values(count, 12)
                self.assertEqual(values(count + k, 12), [x + k for x in told])
                self.assertEqual(values(k + count, 12), [k + x for x in told])
                self.assertEqual(values(count - k, 12), [x - k for x in told])
                self.assertEqual(values(k - count, 12), [k - x for x in told])
                self.assertEqual(values(count * k, 12), [x * k for x in told])
                self.assertEqual(values(k * count, 12), [k * x for x in told])
                self.assertTrue(count + k == k + count and count * k == k * count)
        self.assertEqual((3 * A - 1)(0), -1)

    def test_truths_and_other_values_are_no_integers(self):
        for value in (True, None, "1", 1.0, (1,)):
            with self.assertRaises(TypeError):
                A + value
            with self.assertRaises(TypeError):
                value - A
            if not isinstance(value, (str, tuple)):
                with self.assertRaises(TypeError):
                    A * value

    def test_laws(self):
        counts = sample_counts(35, 12)
        for one, other in zip(counts, counts[1:]):
            self.assertTrue(one + other == other + one)
            self.assertTrue(one - other == -(other - one))
            self.assertTrue((one + other) - other == one)
            self.assertTrue(one + one == 2 * one)

    def test_sum_of(self):
        counts = sample_counts(36, 7)
        self.assertEqual(values(sum_of(counts)), [sum(column) for column in zip(*[values(c) for c in counts])])
        self.assertTrue(sum_of(tuple(counts)) == sum_of(counts=list(reversed(counts))))
        self.assertTrue(sum_of((A,)) == A)
        nothing = sum_of(())
        self.assertEqual((nothing.sections, nothing.firsts, nothing.rules), ((), (), ()))
        self.assertEqual([nothing(0), nothing(10 ** 30)], [0, 0])
        self.assertTrue(A - A == nothing and A * 0 == nothing and sum_of([A, -A]) == nothing)

    def test_the_count_that_is_0_everywhere(self):
        nothing = H - H
        self.assertEqual((nothing.sections, nothing.firsts, nothing.rules), ((), (), ()))
        for told in (nothing + nothing, nothing * A, A * nothing, -nothing, total_below(nothing),
                     composed(nothing, 3, 5), count_from((), ((0,),)), count_from((0, 0), ((0, 0), (0,)))):
            self.assertEqual((told.sections, told.firsts, told.rules), ((), (), ()))
        self.assertTrue(nothing + A == A and A - nothing == A and nothing - A == -A)

    def test_composed(self):
        self.assertEqual(values(composed(H, 2, 3)), [n + 2 for n in range(40)])
        for count in [A, H] + sample_counts(37, 8):
            for factor, shift in ((0, 0), (0, 999), (1, 0), (1, 1), (2, 1), (3, 7), (12, 999), (5, 64)):
                told = composed(count, factor, shift)
                self.assertEqual(values(told, 25), [count(factor * n + shift) for n in range(25)])
                self.assertEqual(told(10 ** 30), count(factor * 10 ** 30 + shift))
            self.assertTrue(composed(count, 1, 0) == count)
            self.assertTrue(composed(composed(count, 3, 2), 2, 5) == composed(count, 6, 17))

    def test_composed_with_wrong_numbers(self):
        for value in BAD_INTEGERS + (13,):
            with self.assertRaises(BadNumber) as caught:
                composed(A, value, -1)
            self.assertEqual((caught.exception.what, caught.exception.number), ("factor", value))
        for value in BAD_INTEGERS + (1000,):
            with self.assertRaises(BadNumber) as caught:
                composed(count=A, factor=12, shift=value)
            self.assertEqual((caught.exception.what, caught.exception.number), ("shift", value))

    def test_total_below(self):
        self.assertEqual(values(total_below(A), 6), [0, 0, 1, 3, 6, 10])
        for count in sample_counts(38, 20):
            told = total_below(count=count)
            plain = values(count)
            self.assertEqual(values(told), [sum(plain[:n]) for n in range(40)])
            self.assertTrue(composed(told, 1, 1) - told == count)


class EqualTest(unittest.TestCase):
    def test_equal_counts(self):
        self.assertTrue(A == count_of(digit_set(2, (BELOW + (("least", (1, 0), 0),),))))
        self.assertTrue(H + H - A == count_of(digit_set(1, ((("rest", (1,), 2, (1,)),),))))
        self.assertFalse(A == H)
        self.assertTrue(A != H)

    def test_other_things_are_not_equal(self):
        for value in (None, 0, 1, (), (A.firsts, A.rules), numbers_set(1), "A", False):
            self.assertIs(A == value, False)
            self.assertIs(sum_of(()) == value, False)

    def test_differs_at(self):
        self.assertEqual(differs_at(A, H), 2)
        self.assertEqual(differs_at(A, A), None)
        self.assertEqual(differs_at(a=A, b=A + 1), 0)
        counts = sample_counts(39, 30)
        for one, other in zip(counts, counts[1:]):
            unlike = [n for n in range(60) if one(n) != other(n)]
            found = differs_at(one, other)
            self.assertEqual(found is None, one == other)
            if unlike:
                self.assertEqual(found, unlike[0])
            elif found is not None:
                self.assertNotEqual(one(found), other(found))

    def test_differs_at_great_numbers(self):
        alike = digit_set(2, ((("is", (1, -1), 0),),))
        for number in (37, 10 ** 6, 10 ** 9 + 1):
            self.assertEqual(differs_at(A, A + count_of(put_in(alike, 1, number))), number)
        both_ends = count_of(put_in(alike, 1, 1000)) - count_of(put_in(alike, 1, 10 ** 6))
        self.assertEqual(differs_at(both_ends + A, A), 1000)


def plain_sections(count, depth, samples):
    """The kept sections up to a depth and whether others hang on them, by elimination over many values."""
    kept, basis = [], []
    for k in range(depth + 1):
        for r in range(2 ** k):
            row = [Fraction(count(2 ** k * n + r)) for n in range(samples)]
            for pivot, other in basis:
                if row[pivot]:
                    factor = row[pivot] / other[pivot]
                    row = [x - factor * y for x, y in zip(row, other)]
            pivots = [at for at, x in enumerate(row) if x]
            if pivots:
                kept.append((k, r))
                basis.append((pivots[0], row))
    return tuple(kept)


class SectionsTest(unittest.TestCase):
    def test_examples(self):
        self.assertEqual(A.sections, ((0, 0), (1, 1)))
        self.assertEqual(A.firsts, (0, 1))
        self.assertEqual(A.rules, (((1, (2, 0)), (1, (0, 1))), ((1, (2, 1)), (1, (-2, 3)))))
        self.assertEqual(H.sections, ((0, 0), (1, 0), (1, 1)))
        self.assertEqual(H.firsts, (0, 0, 1))
        self.assertEqual(H.rules, (((1, (0, 1, 0)), (1, (0, 0, 1))), ((1, (0, 2, 0)), (1, (0, 1, 1))),
                                   ((1, (0, 1, 1)), (1, (0, 0, 2)))))

    def test_constants(self):
        for k in (1, -5, 10 ** 40):
            count = A * 0 + k
            self.assertEqual((count.sections, count.firsts, count.rules),
                             (((0, 0),), (k,), (((1, (1,)), (1, (1,))),)))

    def all_counts(self):
        told = [A, H, 3 * A - 1, A * H, total_below(A * H), composed(H, 3, 17)] + sample_counts(40, 20)
        told.append(count_from((5, 0, -3, 10 ** 39), ((1, 2, 3), (7,), (0, 5))))
        told = told + [total_below(count) - 2 for count in sample_counts(41, 6)]
        return [count for count in told if count.sections]

    def test_kept_sections_by_plain_elimination(self):
        for count in self.all_counts():
            depth = count.sections[-1][0] + 1
            if depth <= 6:
                self.assertEqual(plain_sections(count, depth, 60), count.sections)

    def test_firsts_are_values_at_0(self):
        for count in self.all_counts():
            self.assertEqual(count.firsts, tuple(count(r) for k, r in count.sections))

    def test_rules_tell_sections(self):
        for count in self.all_counts():
            self.assertEqual(len(count.rules), len(count.sections))
            for (k, r), pair in zip(count.sections, count.rules):
                self.assertEqual(len(pair), 2)
                for digit, (many, factors) in enumerate(pair):
                    self.assertEqual(len(factors), len(count.sections))
                    self.assertGreaterEqual(many, 1)
                    self.assertEqual(gcd(many, *factors), 1)
                    for n in range(30):
                        parts = [f * count(2 ** a * n + b) for f, (a, b) in zip(factors, count.sections)]
                        self.assertEqual(many * count(2 ** (k + 1) * n + r + 2 ** k * digit), sum(parts))

    def test_rules_with_many_above_1(self):
        count = count_from((), ((3, 2), (1, 1), (2, 5)))
        self.assertTrue(any(many > 1 for pair in count.rules for many, _ in pair))
        self.assertEqual([count(n) for n in range(6)], [3, 1, 2, 5, 2, 7])
        self.assertEqual(count(3 * 10 ** 30 + 2), 2 + 5 * 10 ** 30)

    def test_kinds(self):
        for count in self.all_counts():
            for part in (count.sections, count.firsts, count.rules, count.sections[0], count.rules[0],
                         count.rules[0][0], count.rules[0][0][1]):
                self.assertIsInstance(part, tuple)

    def test_sections_of_sums(self):
        counts = sample_counts(42, 20)
        for one, other in zip(counts, counts[1:]):
            self.assertLessEqual(len((one + other).sections), len(one.sections) + len(other.sections))


class FactsTest(unittest.TestCase):
    def test_either_and_both(self):
        sets = random_sets(43, 40, arities=(2,), make=bounded_cases)
        for (_, _, a), (_, _, b) in zip(sets, sets[1:]):
            try:
                self.assertTrue(count_of(either(a, b)) + count_of(both(a, b)) == count_of(a) + count_of(b))
            except TooLarge:
                continue

    def test_reordered(self):
        for arity, _, s in random_sets(44, 20, arities=(3, 4), make=bounded_cases):
            places = (0, 2, 1) if arity == 3 else (0, 3, 1, 2)
            self.assertTrue(count_of(reordered(s, places)) == count_of(s))

    def test_left_out_of_functions(self):
        s = digit_set(2, ((("is", (-1, 2), -3),),))
        self.assertTrue(count_of(s) == count_of(left_out(s, 1)))


if __name__ == "__main__":
    unittest.main()
