"""[33] to [36]: works by number, and how many there are."""

import time
import unittest

from loopsize.counts import count_of
from loopsize.errors import BadSize, NoLoop, NoNumber, NoStatement, NoWork, TooFar
from loopsize.runs import works_of
from loopsize.spaces import work_set
from loopsize.texts import program_text, read_program
from loopsize.works import count_statement, count_works, first_size_with, last_work, next_work, number_of
from loopsize.works import totals_differ, work_at, work_totals
from tests.samples import or_error, random_programs, statements_in
from tests.test_runs import BAD_SIZES
from tests.test_spaces import EDGES, NONE, P, programs

BIG = 10 ** 30
SIZES = range(13)


class WorksTest(unittest.TestCase):
    def test_examples(self):
        self.assertEqual([work_at(P, 4, k) for k in range(count_works(P, 4))],
                         [(0, 0, 0), (0, 0, 1), (0, 1, 1), (0, 2, 0), (0, 2, 1), (0, 3, 1), (1, 7, 0), (1, 4, 0), (1, 1, 0)])
        self.assertEqual([number_of(P, 4, (1, 4, 0)), next_work(P, 4, 1, 0, 0), next_work(P, 4, 4, 0, 0),
                          last_work(P, 4, 3, 0, 0)], [7, 3, None, 0])
        self.assertEqual([count_works(P, BIG), work_at(P, BIG, 1499999999999999999999999999999)],
                         [2166666666666666666666666666667, (0, 999999999999999999999999999999, 1)])
        self.assertEqual([[count_works(P, n) for n in range(5)], first_size_with(P, 8), first_size_with(P, 9)],
                         [[0, 3, 4, 7, 9], 4, 4])
        self.assertEqual([first_size_with(P, 2166666666666666666666666666667),
                          first_size_with(P, 2166666666666666666666666666668)], [BIG, BIG + 1])

    def test_works_of_plain_runs(self):
        for program in programs(41, 40):
            for n in SIZES:
                works = works_of(program, n)
                self.assertEqual(count_works(program, n), len(works), program_text(program))
                self.assertEqual([work_at(program, n, k) for k in range(len(works))], works)
                self.assertEqual([number_of(program, n, work) for work in works], list(range(len(works))))
                for k in (-1, len(works), len(works) + BIG, -BIG):
                    with self.assertRaises(NoNumber) as caught:
                        work_at(program, n, k)
                    self.assertEqual(caught.exception.number, k)

    def test_next_and_last_works_of_plain_runs(self):
        for program in programs(42, 25):
            for n in range(8):
                works = works_of(program, n)
                for loop, statement in statements_in(program):
                    numbers = [k for k, work in enumerate(works) if (work[0], work[2]) == (loop, statement)]
                    self.assertEqual(count_statement(program, n, loop, statement), len(numbers))
                    for k in [-BIG, *range(-2, len(works) + 3), BIG]:
                        later = min([number for number in numbers if number >= k], default=None)
                        self.assertEqual(next_work(program, n, k, loop, statement), later, program_text(program))
                        earlier = max([number for number in numbers if number < k], default=None)
                        self.assertEqual(last_work(program, n, k, loop, statement), earlier, program_text(program))

    def test_works_that_are_none(self):
        works = set(works_of(P, 5))
        for loop in range(-2, 4):
            for counter in range(-3, 12):
                for statement in range(-2, 4):
                    work = (loop, counter, statement)
                    if work not in works:
                        with self.assertRaises(NoWork) as caught:
                            number_of(P, 5, work)
                        self.assertIs(caught.exception.work, work)
        self.assertEqual(number_of(P, 5, [0, 2, 1]), number_of(P, 5, (0, 2, 1)))

    def test_great_sizes_by_hand(self):
        half = 3 * BIG // 2
        self.assertEqual(work_at(P, BIG, half), (1, 2 * BIG - 1 - (2 * BIG - 2) % 3, 0))
        self.assertEqual(number_of(P, BIG, (0, BIG - 1, 1)), half - 1)
        self.assertEqual(number_of(P, BIG, (1, 1, 0)), count_works(P, BIG) - 1)
        self.assertEqual(next_work(P, BIG, 7, 0, 0), 9)
        self.assertEqual(next_work(P, BIG, half - 1, 0, 0), None)
        self.assertEqual(last_work(P, BIG, half, 0, 0), half - 3)
        self.assertEqual(last_work(P, BIG, BIG ** 2, 1, 0), count_works(P, BIG) - 1)
        self.assertEqual(next_work(P, BIG, -BIG, 1, 0), half)
        self.assertEqual(count_statement(P, BIG, 0, 0), BIG // 2)
        steps = read_program("for i from n + 1 below 3 * n by 7 down:\n if (i + n) mod 4 == 1 and 2 * i - 3 * n >= 5: x[i] = 1\n"
                             " x[0] = 1\n if i mod 3 == 0: x[1] = 1\n")
        for n in (1000, 1001, BIG, BIG - 1):
            self.assertEqual(count_statement(steps, n, 0, 1), (2 * n - 2) // 7 + 1)
            first = min(i for i in range((3 * n + 6) // 2, (3 * n + 6) // 2 + 28) if i % 7 == (n + 1) % 7 and (i + n) % 4 == 1)
            self.assertEqual(count_statement(steps, n, 0, 0), (3 * n - 1 - first) // 28 + 1)
            self.assertEqual(work_at(steps, n, count_works(steps, n) - 1)[1:], (n + 1, 2 if (n + 1) % 3 == 0 else 1))
            for k in (0, 1, 12345 % count_works(steps, n), count_works(steps, n) // 3):
                self.assertEqual(number_of(steps, n, work_at(steps, n, k)), k)

    def test_great_sizes_take_hardly_longer(self):
        before = time.process_time()
        for k in range(200):
            self.assertEqual(number_of(P, BIG, work_at(P, BIG, 10 ** 28 + k)), 10 ** 28 + k)
        self.assertLess(time.process_time() - before, 2)

    def test_totals(self):
        for program in programs(43, 25):
            totals = work_totals(program)
            for n in SIZES:
                self.assertEqual(totals(n), count_works(program, n), program_text(program))
            for n in (999, BIG):
                self.assertEqual(totals(n), count_works(program, n))
        self.assertEqual(work_totals(read_program(""))(BIG), 0)
        self.assertTrue(work_totals(P) == count_of(work_set(P, 0, 0)) + count_of(work_set(P, 0, 1)) + count_of(work_set(P, 1, 0)))

    def test_totals_differ(self):
        made = programs(44, 30)
        for first, second in zip(made, made[1:]):
            unlike = [n for n in SIZES if count_works(first, n) != count_works(second, n)]
            told = totals_differ(first, second)
            if unlike:
                self.assertEqual(told, unlike[0])
            elif told is not None:
                self.assertGreaterEqual(told, len(SIZES))
                self.assertNotEqual(count_works(first, told), count_works(second, told))
        one = read_program("for i from 0 below n:\n x[i] = 1\n")
        two = read_program("for i from 0 below n:\n if i < 500: y[i] = 1\nfor i from 500 below n by 2:\n x[i] = 1\n")
        self.assertEqual(totals_differ(one, two), 502)
        self.assertIsNone(totals_differ(one, read_program("for i from n below 2 * n down:\n z[0] = 1\n")))

    def test_first_sizes(self):
        for program in programs(45, 30):
            for many in (-BIG, -1, 0, 1, 2, 5, 11, 30):
                told = or_error(first_size_with, program, many)
                reached = [n for n in SIZES if count_works(program, n) >= many]
                if told == "TooFar":
                    continue
                if many <= 0:
                    self.assertEqual(told, 0)
                elif reached:
                    self.assertEqual(told, reached[0], program_text(program))
                elif told is not None:
                    self.assertGreaterEqual(told, len(SIZES))
                    self.assertGreaterEqual(count_works(program, told), many)
                    self.assertLess(count_works(program, told - 1), many)

    def test_first_sizes_where_totals_do_not_grow(self):
        hill = read_program("for i from n below 40:\n if i < 2 * n: x[i] = 1\n")
        most = max(count_works(hill, n) for n in range(50))
        for many in range(1, most + 1):
            self.assertEqual(first_size_with(hill, many), min(n for n in range(50) if count_works(hill, n) >= many))
        self.assertIsNone(first_size_with(hill, most + 1))
        waves = read_program("for i from 0 below 3 * n by 3:\n if n mod 4 == 1: x[i] = 1\n")
        self.assertEqual(first_size_with(waves, BIG), BIG + 1)
        self.assertEqual(first_size_with(waves, BIG ** 2), BIG ** 2 + 1)
        self.assertIsNone(first_size_with(read_program(""), 1))
        self.assertEqual(first_size_with(read_program("for i from 0 below 5:\n x[i] = 1\n"), 5), 0)

    def test_first_size_refuses_what_formula_of_refuses(self):
        far = read_program("for i from 0 below n by 13:\n if i mod 4 == 0 and (i + n) mod 3 == 0: x[i] = 1\n")
        for many in (-1, 0, 1, BIG):
            with self.assertRaises(TooFar) as caught:
                first_size_with(far, many)
            self.assertEqual((caught.exception.what, caught.exception.limit), ("period", 60))
        self.assertEqual(count_works(far, 157), work_totals(far)(157))

    def test_errors_and_their_order(self):
        for value in BAD_SIZES:
            for call in (lambda: count_works(P, value), lambda: count_statement(P, value, 0, 0), lambda: work_at(P, value, -1),
                         lambda: number_of(P, value, (9, 9, 9)), lambda: next_work(P, value, 0, 0, 0),
                         lambda: last_work(P, value, 0, 0, 0)):
                with self.assertRaises(BadSize) as caught:
                    call()
                self.assertIs(caught.exception.n, value)
        for value in NONE:
            for call in (count_statement, lambda p, n, a, b: next_work(p, n, 0, a, b),
                         lambda p, n, a, b: last_work(p, n, 0, a, b)):
                with self.assertRaises(NoLoop) as caught:
                    call(P, "no size", value, None)
                self.assertIs(caught.exception.loop, value)
                with self.assertRaises(NoStatement) as caught:
                    call(P, "no size", 1, value)
                self.assertEqual(caught.exception.loop, 1)
                self.assertIs(caught.exception.statement, value)

    def test_empty_programs_and_ranges(self):
        for program in (read_program(""), read_program(EDGES[0]), read_program(EDGES[1])):
            for n in (0, 1, BIG):
                self.assertEqual(count_works(program, n), 0)
                self.assertEqual(or_error(work_at, program, n, 0), "NoNumber")
        self.assertIsNone(next_work(read_program(EDGES[1]), BIG, 0, 0, 0))
        self.assertIsNone(last_work(read_program(EDGES[1]), BIG, BIG, 0, 0))
        self.assertEqual(count_works(random_programs(46, 1)[0], 0), len(works_of(random_programs(46, 1)[0], 0)))


if __name__ == "__main__":
    unittest.main()
