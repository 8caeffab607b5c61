"""[42] and [43]: the last works that write cells, and sources at one size."""

import time
import unittest

from loopsize.digitsets import digit_set, is_all, is_none
from loopsize.errors import BadNumber, BadSize, NoArray, NoLoop, NoRead, NoStatement, NoWork
from loopsize.flows import takes, takes_input
from loopsize.lasts import last_at, last_works, source_at, stays, untouched
from loopsize.runs import log_program
from loopsize.spaces import work_set
from loopsize.texts import program_text, read_program
from loopsize.works import count_works, work_at
from tests.samples import or_error, statements_in
from tests.test_flows import FIRST, MORE, SECOND, programs
from tests.test_runs import BAD_SIZES
from tests.test_spaces import NONE

BIG = 10 ** 30
SIZES = range(7)
TWICE = read_program("for i from 0 below n:\n x[2 * i] = 1\n x[3 * i] = 2\n")


class LastsTest(unittest.TestCase):
    def test_examples(self):
        self.assertTrue(stays(FIRST, (0, 0)) == digit_set(2, ((("is", (0, 1), 0), ("least", (1, 0), 1)),)))
        self.assertTrue(stays(FIRST, (1, 0)) == work_set(FIRST, 1, 0))
        self.assertEqual([source_at(FIRST, BIG, (1, 0, 0), 7), last_at(FIRST, BIG, "x", BIG)], [(1, 6, 0), None])
        first, second = last_works(TWICE, (0, 0)), last_works(TWICE, (0, 1))
        for n in range(10):
            self.assertIs((n, 6, 3) in first, n >= 4)
            self.assertIs((n, 6, 2) in second, n == 3)
            self.assertIs((n, 0, 0) in second, n >= 1)
            self.assertFalse((n, 0, 0) in first)
        self.assertEqual([source_at(SECOND, 10, (1, 0, 0), j) for j in range(0, 20, 2)],
                         [(0, 3, 0), None, None, (0, 5, 0), None, None, (0, 7, 0), None, None, (0, 9, 0)])

    def test_what_stays_by_plain_logs(self):
        for program in programs(61, 50):
            logs = {n: log_program(program, n) for n in SIZES}
            for writer in statements_in(program):
                staying = stays(program, writer)
                told = last_works(program, writer)
                for n, log in logs.items():
                    lasts = {log.last_writer(*write): write[1] for write in log.writes}
                    works = {i: (writer[0], i, writer[1]) for i in range(20)}
                    self.assertEqual([i for i in works if (n, i) in staying],
                                     [i for i in works if works[i] in lasts], program_text(program))
                    found = [(c, i) for i in works for c in range(60) if (n, c, i) in told]
                    wanted = [(lasts[works[i]], i) for i in works if lasts.get(works[i], -1) >= 0]
                    self.assertEqual(found, wanted, program_text(program))

    def test_untouched_by_plain_logs(self):
        for program in programs(62, 40):
            for array in program.arrays:
                told = untouched(program, array)
                for n in SIZES:
                    written = set(log_program(program, n).writes)
                    for c in range(40):
                        self.assertIs((n, c) in told, (array, c) not in written, program_text(program))
        self.assertTrue(is_all(untouched(SECOND, "y")) is False)
        self.assertTrue(is_all(untouched(read_program("for i from 0 below n:\n y[i] = x[i]\n"), "x")))
        self.assertTrue(untouched(FIRST, "x") == digit_set(2, ((("least", (-1, 1), 0),),)))

    def test_last_at_by_plain_logs(self):
        for program in programs(63, 40):
            for n in range(6):
                log = log_program(program, n)
                for array in program.arrays:
                    for cell in range(-6, 16):
                        self.assertEqual(last_at(program, n, array, cell), log.last_writer(array, cell))
                        last = None
                        for work, write in zip(log.works, log.writes):
                            self.assertEqual(last_at(program, n, array, cell, work=work), last, program_text(program))
                            last = work if write == (array, cell) else last

    def test_source_at_by_plain_logs_and_sets(self):
        for program in programs(64, 40):
            for n in SIZES:
                log = log_program(program, n)
                for work, taken in zip(log.works, log.takes):
                    for number, (_, _, source) in enumerate(taken):
                        read = (work[0], work[2], number)
                        self.assertEqual(source_at(program, n, read, work[1]), source, program_text(program))

    def test_great_sizes_by_hand(self):
        down, _, sums = [read_program(text) for text in MORE[:3]]
        self.assertEqual(source_at(down, BIG, (0, 0, 0), 5), (0, 6, 0))
        self.assertIsNone(source_at(down, BIG, (0, 0, 0), BIG - 1))
        self.assertEqual(source_at(sums, BIG, (0, 0, 0), BIG // 3), (0, BIG // 3 - 1, 0))
        self.assertEqual(last_at(sums, BIG, "s", 0), (0, BIG - 1, 0))
        self.assertEqual(last_at(sums, BIG, "s", 0, work=(0, 77, 0)), (0, 76, 0))
        self.assertIsNone(last_at(sums, BIG, "s", 0, work=(0, 0, 0)))
        self.assertIsNone(last_at(sums, BIG, "s", 1))
        self.assertEqual(last_at(TWICE, BIG, "x", 6 * 10 ** 29), (0, 3 * 10 ** 29, 0))
        self.assertEqual(last_at(TWICE, BIG, "x", 3 * BIG - 3), (0, BIG - 1, 1))
        self.assertEqual(source_at(SECOND, BIG, (1, 0, 0), 2 * BIG - 2), (0, BIG - 1, 0))
        below = read_program("for i from 0 below n by 3 down:\n if i mod 2 == 1: x[1 - 2 * i] = 1\n")
        self.assertEqual(last_at(below, BIG, "x", 1 - 2 * (10 ** 27 + 5)), (0, 10 ** 27 + 5, 0))
        self.assertIsNone(last_at(below, BIG, "x", 1 - 2 * (10 ** 27 + 2)))
        rare = read_program("for i from 0 below 2 * n by 5 down:\n if i mod 4 == 2 and (i + n) mod 3 == 1: x[n] = 1\n")
        counters = [i for i in range(0, 60, 5) if i % 4 == 2 and (i + BIG) % 3 == 1]
        self.assertEqual(last_at(rare, BIG, "x", BIG), (0, counters[0], 0))
        self.assertEqual(last_at(rare, BIG, "x", BIG, work=(0, counters[0], 0)), (0, counters[0] + 60, 0))

    def test_great_sizes_take_hardly_longer(self):
        before = time.process_time()
        for k in range(500):
            self.assertEqual(source_at(FIRST, BIG, (1, 0, 0), BIG - 1 - k), (1, BIG - 2 - k, 0))
        self.assertLess(time.process_time() - before, 2)

    def test_sets_and_points_agree(self):
        told = takes(SECOND, (1, 0, 0), (0, 0))
        for j in range(2 * BIG - 40, 2 * BIG, 2):
            source = source_at(SECOND, BIG, (1, 0, 0), j)
            if source is not None:
                self.assertTrue((BIG, j, source[1]) in told)
        self.assertTrue((BIG, 6, 3) in last_works(TWICE, (0, 0)))
        self.assertTrue(is_none(last_works(read_program("for i from 0 below n:\n x[-i - 1] = 1\n"), (0, 0))))

    def test_sets_and_points_agree_at_great_sizes(self):
        for program in programs(65, 15):
            told = {writer: (stays(program, writer), last_works(program, writer)) for writer in statements_in(program)}
            for n in (173, BIG - 1, BIG):
                total = count_works(program, n)
                for number in (0, total // 3, total // 2, total - 2, total - 1):
                    if 0 <= number < total:
                        self.check_work(program, n, work_at(program, n, number), told)

    def check_work(self, program, n, work, told):
        loop, i, number = work
        statement = program.loops[loop].statements[number]
        cell = statement.cell(i, n)
        is_last = last_at(program, n, statement.array, cell) == work
        self.assertIs((n, i) in told[loop, number][0], is_last, program_text(program))
        if cell >= 0:
            self.assertIs((n, cell, i) in told[loop, number][1], is_last, program_text(program))
            self.assertFalse((n, cell) in untouched(program, statement.array))
        for read in range(len(statement.reads)):
            source = source_at(program, n, (loop, number, read), i)
            self.assertIs((n, i) in takes_input(program, (loop, number, read)), source is None, program_text(program))
            if source is not None:
                taken = takes(program, (loop, number, read), (source[0], source[2]))
                self.assertTrue((n, i, source[1]) in taken, program_text(program))
                self.assertFalse((n, i, source[1] + 1) in taken, program_text(program))

    def test_errors_and_their_order(self):
        for value in NONE:
            for call, wanted in (
                (lambda: stays(FIRST, (value, 9)), NoLoop), (lambda: stays(FIRST, (0, value)), NoStatement),
                (lambda: last_works(FIRST, [value, 9]), NoLoop), (lambda: last_works(FIRST, (0, value)), NoStatement),
                (lambda: untouched(FIRST, value), NoArray), (lambda: last_at(FIRST, "n", value, "c", work=(9, 9, 9)), NoArray),
                (lambda: source_at(FIRST, "n", (value, 9, 9), 0), NoLoop),
                (lambda: source_at(FIRST, "n", (1, value, 9), 0), NoStatement),
                (lambda: source_at(FIRST, "n", (1, 0, value), 0), NoRead),
            ):
                with self.assertRaises(wanted) as caught:
                    call()
                self.assertTrue(any(field is value for field in vars(caught.exception).values()))
        for value in BAD_SIZES:
            for call in (lambda: last_at(FIRST, value, "x", None), lambda: source_at(FIRST, value, (1, 0, 0), 0)):
                with self.assertRaises(BadSize) as caught:
                    call()
                self.assertIs(caught.exception.n, value)
        for value in (True, None, "1", 1.0, (1,)):
            with self.assertRaises(BadNumber) as caught:
                last_at(FIRST, 4, "x", value, work=(9, 9, 9))
            self.assertEqual(caught.exception.what, "cell")
            self.assertIs(caught.exception.number, value)
            with self.assertRaises(NoWork) as caught:
                source_at(FIRST, 4, (1, 0, 0), value)
            self.assertEqual(caught.exception.work, (1, value, 0))

    def test_works_that_are_none(self):
        for work in ((0, 4, 0), (0, -1, 0), (2, 0, 0), (-1, 0, 0), (0, 0, 1), (0, 0, -1), (1, 0, 0)):
            with self.assertRaises(NoWork) as caught:
                last_at(FIRST, 4, "x", 0, work=work)
            self.assertIs(caught.exception.work, work)
        for j in (0, 4, -1, BIG):
            self.assertEqual(or_error(source_at, FIRST, 4, (1, 0, 0), j), "NoWork")
        self.assertEqual(last_at(FIRST, 4, "x", 3, work=[1, 3, 0]), (0, 3, 0))
        self.assertEqual(or_error(untouched, FIRST, "xx"), "NoArray")
        with self.assertRaises(TypeError):
            last_at(FIRST, 4, "x", 0, (0, 0, 0))


if __name__ == "__main__":
    unittest.main()
