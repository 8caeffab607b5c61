"""[59] and [60]: windows of arrays that are kept between."""

import random
import unittest

from loopsize.counts import count_of
from loopsize.digitsets import DigitSet
from loopsize.errors import BadNumber, BadSize, NoArray, NotKept, TooLarge, TooLong
from loopsize.folding import fold_is_right, fold_least
from loopsize.formulas import formula_of
from loopsize.texts import program_text, read_program
from loopsize.windows import fold_is_right_at, fold_least_at, window, window_pairs
from tests.samples import kept_program, or_error, random_programs
from tests.test_folding import LATE, NEAR, WIDE, first_not_kept, plain_distances
from tests.test_spaces import NONE

BIG = 10 ** 30
SIZES = range(8)
TURNED = read_program("for i from 0 below n:\n t[i] = a[i]\nfor i from 0 below n:\n b[i] = t[n - 1 - i]\n")
# The distances at n are 1 to n - 1.
LINE = read_program("for i from 0 below n:\n t[i] = a[i]\nfor i from 0 below n:\n b[i] = t[i]\n")
# The only distance, from n = 1 on, is n.
ONE = read_program("for i from 0 below 1:\n if n >= 1: t[0] = a[i]\n if n >= 1: t[n] = 1\n if n >= 1: b[0] = t[0]\n")


def programs(seed, many):
    chance = random.Random(seed)
    return [NEAR, WIDE, TURNED, LINE, ONE] + [kept_program(chance) for _ in range(many)]


def kept_arrays(program):
    """The arrays that are kept between, with their distances at some sizes."""
    told = []
    for array in program.arrays:
        plain = {n: plain_distances(program, n, array) for n in SIZES}
        if None not in plain.values() and or_error(window, program, array, 0) != "NotKept":
            told.append((array, plain))
    return told


class WindowsTest(unittest.TestCase):
    def test_examples(self):
        self.assertEqual([window(NEAR, "t", 1), window(NEAR, "t", BIG), window(WIDE, "t", 0),
                          window(WIDE, "t", BIG) == 2 * BIG - 1], [1, 2, 1, True])
        self.assertEqual([fold_least_at(WIDE, "t", 4), fold_least_at(WIDE, "t", 5), fold_least_at(WIDE, "t", 6),
                          fold_is_right_at(WIDE, "t", BIG, 3)], [5, 5, 7, False])

    def test_windows_by_plain_logs(self):
        met = set()
        for program in programs(241, 40):
            for array, plain in kept_arrays(program):
                told = or_error(window_pairs, program, array)
                for n in SIZES:
                    greatest = max(plain[n], default=0)
                    met.add(greatest > 0)
                    self.assertEqual(window(program, array, n), greatest + 1, program_text(program))
                    if told != "TooLarge":
                        self.assertEqual([k for k in range(50) if (n, k) in told], list(range(greatest + 1)))
        self.assertEqual(met, {False, True})

    def test_right_numbers_of_one_size_by_plain_logs(self):
        for program in programs(242, 16):
            for array, plain in kept_arrays(program):
                for n in (0, 1, 4, 7):
                    right = [m for m in range(1, 70) if not any(d % m == 0 for d in plain[n])]
                    self.assertEqual(fold_least_at(program, array, n), right[0], program_text(program))
                    for m in (1, 2, 3, 4, 5, 7, 11, 64, 65, 69):
                        self.assertIs(fold_is_right_at(program, array, n, m), m in right, program_text(program))
                    self.assertIs(fold_is_right_at(program, array, n, BIG ** 2), True)

    def test_the_number_ahead_of_the_window_is_not_right(self):
        for program in programs(243, 25):
            for array, _ in kept_arrays(program):
                for n in (9, BIG):
                    told = window(program, array, n)
                    for m in (told, told + 1, told + 2, 3 * told + BIG):
                        self.assertIs(fold_is_right_at(program, array, n, m), True)
                    if told > 1:
                        self.assertIs(fold_is_right_at(program, array, n, told - 1), False)

    def test_what_is_right_at_all_sizes_is_right_at_each(self):
        for program in programs(244, 20):
            for array, _ in kept_arrays(program):
                least = or_error(fold_least, program, array)
                if least not in (None, "TooFar"):
                    for n in (3, 8, 10 ** 3, BIG):
                        self.assertIs(fold_is_right_at(program, array, n, least), True)
                for m in (2, 5):
                    if or_error(fold_is_right, program, array, m) is True:
                        self.assertIs(fold_is_right_at(program, array, BIG, m), True)

    def test_windows_have_formulas(self):
        for program, array, rows, start in ((WIDE, "t", ((-1, 2),), 1), (NEAR, "t", ((2,),), 2), (LINE, "t", ((0, 1),), 1),
                                            (NEAR, "b", ((1,),), 0), (ONE, "t", ((1, 1),), 0)):
            count = count_of(window_pairs(program, array))
            told = formula_of(count)
            self.assertEqual((told.rows, told.start), (rows, start))
            for n in (0, 1, 2, 10, BIG):
                self.assertEqual(count(n), window(program, array, n))
        for program in programs(245, 20):
            for array, _ in kept_arrays(program):
                told = or_error(window_pairs, program, array)
                if told != "TooLarge":
                    formula = or_error(formula_of, count_of(told))
                    if formula != "TooFar":
                        self.assertEqual(formula(BIG), window(program, array, BIG))

    def test_right_numbers_at_great_sizes(self):
        self.assertEqual([fold_is_right_at(ONE, "t", BIG, m) for m in (1, 2, 3, 5, 63, 64)],
                         [False, False, True, False, True, False])
        self.assertEqual([fold_is_right_at(ONE, "t", BIG - 1, m) for m in (3, 7, 9, 11, 64)], [BIG % m != 1 for m in (3, 7, 9, 11, 64)])
        for m in (BIG // 2000, BIG // 125, BIG // 2, BIG):
            self.assertIs(fold_is_right_at(ONE, "t", BIG, m), False)
            self.assertIs(fold_is_right_at(ONE, "t", BIG, m + 1), True)
        self.assertEqual([fold_is_right_at(WIDE, "t", BIG, m) for m in (1, 64, BIG // 500, BIG, BIG + 1, 2 * BIG - 2, 2 * BIG - 1)],
                         [False, False, False, False, True, False, True])

    def test_many_multiples(self):
        m = 10 ** 26
        # Below the window of LINE at n are the multiples up to n - 1.
        self.assertIs(fold_is_right_at(LINE, "t", 2000 * m + 1, m), False)
        self.assertIs(fold_is_right_at(LINE, "t", 2001 * m, m), False)
        with self.assertRaises(TooLong) as caught:
            fold_is_right_at(LINE, "t", 2001 * m + 1, m)
        self.assertEqual(caught.exception.many, 2001)
        with self.assertRaises(TooLong) as caught:
            fold_is_right_at(ONE, "t", BIG, 65)
        self.assertEqual(caught.exception.many, BIG // 65)
        self.assertIs(fold_is_right_at(ONE, "t", 2000 * 67 + 1, 67), True)
        self.assertIs(fold_is_right_at(ONE, "t", 2000 * 67, 67), False)
        with self.assertRaises(TooLong) as caught:
            fold_is_right_at(ONE, "t", 2001 * 67, 67)
        self.assertEqual(caught.exception.many, 2001)
        self.assertEqual([fold_is_right_at(ONE, "t", BIG, m) for m in (64, 63)], [False, True])

    def test_windows_of_2000_and_2001(self):
        self.assertEqual([window(LINE, "t", 2000), window(LINE, "t", 2001)], [2000, 2001])
        self.assertEqual(fold_least_at(LINE, "t", 2000), 2000)
        with self.assertRaises(TooLong) as caught:
            fold_least_at(LINE, "t", 2001)
        self.assertEqual(caught.exception.many, 2001)
        self.assertEqual(fold_least_at(ONE, "t", 1999), 2)
        self.assertEqual(fold_least_at(ONE, "t", 1998), 4)
        for n in (2000, BIG):
            with self.assertRaises(TooLong) as caught:
                fold_least_at(ONE, "t", n)
            self.assertEqual(caught.exception.many, n + 1)
        self.assertEqual(fold_least_at(NEAR, "t", BIG), 2)

    def test_errors_and_their_order(self):
        for value in ("", "c", "tt", None, 0, True, 1.0, ("t",), ["t"], {}):
            for call in (lambda: window(NEAR, value, -1), lambda: window_pairs(NEAR, value),
                         lambda: fold_is_right_at(NEAR, value, -1, 0), lambda: fold_least_at(NEAR, value, -1)):
                with self.assertRaises(NoArray) as caught:
                    call()
                self.assertIs(caught.exception.array, value)
        many = 0
        for program in [LATE] + random_programs(246, 15):
            for array in program.arrays:
                found = first_not_kept(program, array, range(6))
                for call in (lambda: window(program, array, -1), lambda: window_pairs(program, array),
                             lambda: fold_is_right_at(program, array, -1, 0), lambda: fold_least_at(program, array, -1)):
                    if found is not None:
                        with self.assertRaises(NotKept) as caught:
                            call()
                        self.assertEqual((caught.exception.n, caught.exception.work, caught.exception.read), found)
                        many += 1
        self.assertGreater(many, 20)
        for value in (-1, BIG + 1, True, None, "1", 1.0, (), []):
            for call in (lambda: window(NEAR, "t", value), lambda: fold_is_right_at(NEAR, "t", value, 0),
                         lambda: fold_least_at(NEAR, "t", value)):
                with self.assertRaises(BadSize) as caught:
                    call()
                self.assertIs(caught.exception.n, value)
        for value in (0, -3, True, False, None, "1", 2.0, (2,), [], *NONE[2:]):
            with self.assertRaises(BadNumber) as caught:
                fold_is_right_at(LINE, "t", BIG, value)
            self.assertEqual(caught.exception.what, "m")
            self.assertIs(caught.exception.number, value)
        self.assertIsInstance(window_pairs(program=NEAR, name="t"), DigitSet)
        self.assertEqual([window(program=NEAR, name="t", n=5), fold_is_right_at(program=NEAR, name="t", n=5, m=2),
                          fold_least_at(program=NEAR, name="t", n=5)], [2, True, 2])

    def test_too_large(self):
        text = ("for i from 0 below 1:\n t[0] = 1\nfor i from 0 below n by {}:\n t[{} * i + {}] = 1\n"
                "for i from 0 below 1:\n b[0] = t[0]\n")
        for numbers in ((7, 4, 3), (5, 3, 900), (13, 11, 999)):
            large = read_program(text.format(*numbers))
            with self.assertRaises(TooLarge) as caught:
                window_pairs(large, "t")
            self.assertEqual(caught.exception.most, 400)
            step, factor, one = numbers
            self.assertEqual(window(large, "t", BIG), factor * ((BIG - 1) // step * step) + one + 1)
        self.assertLessEqual(window_pairs(read_program(text.format(5, 7, 9)), "t").states, 400)


if __name__ == "__main__":
    unittest.main()
