"""[37] to [41]: accesses, pairs of works, and the sources of reads."""

import unittest

from loopsize.digitsets import both, digit_set, either, is_none, left_out, others
from loopsize.errors import NoAccess, NoLoop, NoRead, NoStatement
from loopsize.flows import readers_of, sources_of, takes, takes_input
from loopsize.members import least_of
from loopsize.pairs import ahead, same_cell
from loopsize.runs import Stepper, log_program
from loopsize.spaces import work_set
from loopsize.texts import program_text, read_program
from tests.samples import accesses_of, or_error, random_programs, reads_in, statement_of, statements_in
from tests.test_spaces import EDGES, NONE

BIG = 10 ** 30
SIZES = range(7)
FIRST = read_program("for i from 0 below n:\n x[i] = 1\nfor i from 1 below n:\n x[i] = 1 + x[i - 1]\n")
SECOND = read_program("for i from 0 below n:\n x[3 * i + 1] = 1\nfor i from 0 below 2 * n by 2:\n y[i] = x[i + n]\n")
MORE = (
    "for i from 0 below n down:\n x[i] = 1 + x[i + 1]\n",
    "for i from 0 below n:\n x[i] = 1 + x[i + 1]\n",
    "for i from 0 below n:\n s[0] = s[0] + x[i]\n",
    "for i from 0 below n:\n x[0] = 1\n x[i] = x[0] + x[i // 2]\n x[0] = x[n - i] + x[(i + n) // 3]\n",
    "for i from 0 below n by 2:\n x[i - 3] = x[i - 4]\n x[2 * i] = x[i - 5]\nfor i from 0 below n down:\n x[n] = x[-i]\n",
    "for i from 0 below 2 * n by 3 down:\n if i mod 2 == 0: x[i] = x[i] + x[i + 2]\n",
    "for i from 0 below n:\n x[i] = 1\nfor i from 0 below n down:\n x[n - i] = x[i]\nfor i from 0 below n:\n y[i] = x[i // 2]\n",
)


def programs(seed, many):
    return [FIRST, SECOND] + [read_program(text) for text in MORE + EDGES] + random_programs(seed, many)


def plain_sources(program, n):
    """For each read (loop, statement, read) a dict: counters and their sources, (loop, counter, statement) or None."""
    told = {read: {} for read in reads_in(program)}
    log = log_program(program, n)
    for work, taken in zip(log.works, log.takes):
        for number, (_, _, source) in enumerate(taken):
            told[work[0], work[2], number][work[1]] = source
    return told


def takes_of(program, read):
    return {writer: takes(program, read, writer) for writer in statements_in(program)}


class PairsTest(unittest.TestCase):
    def test_same_cell_and_ahead_of_plain_works(self):
        for program in programs(51, 10):
            for n in range(5):
                works = log_program(program, n).works
                place = {work: at for at, work in enumerate(works)}
                for writer in statements_in(program):
                    self.check_pairs(program, n, place, writer)

    def check_pairs(self, program, n, place, writer):
        written = [work for work in place if (work[0], work[2]) == writer]
        for loop, statement in statements_in(program):
            done = [work for work in place if (work[0], work[2]) == (loop, statement)]
            told = ahead(program, (loop, statement), writer)
            for j in range(12):
                for i in range(12):
                    one, other = (loop, j, statement), (writer[0], i, writer[1])
                    wanted = one in place and other in place and place[other] < place[one]
                    self.assertIs((n, j, i) in told, wanted, program_text(program))
            for access in range(len(statement_of(program, (loop, 0, statement)).reads) + 1):
                told = same_cell(program, (loop, statement, access), writer)
                for work in done:
                    for other in written:
                        touched = accesses_of(program, work, n)[access] == accesses_of(program, other, n)[-1]
                        self.assertIs((n, work[1], other[1]) in told, touched, program_text(program))
                self.assertFalse((n, 50, 50) in told)

    def test_great_sizes(self):
        self.assertTrue((BIG, 2 * BIG - 2, BIG - 1) in same_cell(SECOND, (1, 0, 0), (0, 0)))
        self.assertFalse((BIG, 2 * BIG - 4, BIG - 2) in same_cell(SECOND, (1, 0, 0), (0, 0)))
        self.assertTrue((BIG ** 2, 5, BIG) in ahead(FIRST, (1, 0), (0, 0)))
        self.assertTrue(is_none(ahead(FIRST, (0, 0), (1, 0))))
        down = read_program(MORE[0])
        self.assertTrue((BIG, 5, 6) in ahead(down, (0, 0), (0, 0)))
        self.assertFalse((BIG, 6, 5) in ahead(down, (0, 0), (0, 0)))

    def test_edges(self):
        self.assertTrue(is_none(same_cell(SECOND, (1, 0, 1), (0, 0))))
        own = same_cell(FIRST, (0, 0, 0), (0, 0))
        self.assertTrue(own == digit_set(3, ((("is", (0, 1, -1), 0), ("least", (1, -1, 0), 1)),)))
        no_work_of_its_own = both(ahead(FIRST, (0, 0), (0, 0)), digit_set(3, ((("is", (0, 1, -1), 0),),)))
        self.assertTrue(is_none(no_work_of_its_own))
        below = read_program("for i from 0 below n:\n x[i - 5] = x[2 * i - 7]\n")
        self.assertTrue((9, 2, 2) in same_cell(below, (0, 0, 0), (0, 0)))

    def test_errors_and_their_order(self):
        for value in NONE:
            for call, wanted in (
                (lambda: same_cell(FIRST, (value, "x", "x"), ("x", "x")), NoLoop),
                (lambda: same_cell(FIRST, (0, value, "x"), ("x", "x")), NoStatement),
                (lambda: same_cell(FIRST, (0, 0, value), ("x", "x")), NoAccess),
                (lambda: same_cell(FIRST, (1, 0, 1), (value, "x")), NoLoop),
                (lambda: same_cell(FIRST, (1, 0, 1), (1, value)), NoStatement),
                (lambda: ahead(FIRST, (value, 0), (9, 9)), NoLoop), (lambda: ahead(FIRST, (1, value), (9, 9)), NoStatement),
                (lambda: ahead(FIRST, (1, 0), (value, 9)), NoLoop), (lambda: ahead(FIRST, (1, 0), [0, value]), NoStatement),
                (lambda: takes(FIRST, (value, 9, 9), (9, 9)), NoLoop), (lambda: takes(FIRST, (1, value, 9), (9, 9)), NoStatement),
                (lambda: takes(FIRST, (1, 0, value), (9, 9)), NoRead), (lambda: takes(FIRST, [1, 0, 0], (value, 9)), NoLoop),
                (lambda: takes(FIRST, (1, 0, 0), (1, value)), NoStatement), (lambda: takes_input(FIRST, (value, 0, 0)), NoLoop),
                (lambda: takes_input(FIRST, (0, 0, value)), NoRead), (lambda: sources_of(FIRST, (1, 0, value)), NoRead),
                (lambda: sources_of(FIRST, (1, value, 0)), NoStatement), (lambda: readers_of(FIRST, (value, 0)), NoLoop),
                (lambda: readers_of(FIRST, (0, value)), NoStatement),
            ):
                with self.assertRaises(wanted) as caught:
                    call()
                fields = vars(caught.exception)
                self.assertTrue(any(field is value for field in fields.values()))
        for read in ((0, 0, 0), (1, 0, 1)):
            self.assertEqual(or_error(takes, FIRST, read, (0, 0)), "NoRead")
            self.assertEqual(or_error(takes_input, FIRST, read), "NoRead")
        self.assertEqual(or_error(same_cell, FIRST, (1, 0, 2), (0, 0)), "NoAccess")


class FlowsTest(unittest.TestCase):
    def test_first_example(self):
        one = digit_set(3, ((("is", (0, 1, 0), 1), ("is", (0, 0, 1), 0), ("least", (1, 0, 0), 2)),))
        self.assertTrue(takes(FIRST, (1, 0, 0), (0, 0)) == one)
        chain = digit_set(3, ((("is", (0, 1, -1), 1), ("least", (0, 1, 0), 2), ("least", (1, -1, 0), 1)),))
        self.assertTrue(takes(FIRST, (1, 0, 0), (1, 0)) == chain)
        self.assertTrue(is_none(takes_input(FIRST, (1, 0, 0))))
        self.assertEqual(sources_of(FIRST, (1, 0, 0)), ((0, 0), (1, 0)))
        self.assertEqual(readers_of(FIRST, (0, 0)), ((1, 0, 0),))

    def test_second_example(self):
        told = takes(SECOND, (1, 0, 0), (0, 0))
        wanted = digit_set(3, ((("rest", (0, 1, 0), 2, (0,)), ("least", (2, -1, 0), 1), ("is", (1, 1, -3), 1)),))
        self.assertTrue(told == wanted)
        pairs = [(j, i) for j in range(20) for i in range(20) if (10, j, i) in told]
        self.assertEqual(pairs, [(0, 3), (6, 5), (12, 7), (18, 9)])
        self.assertEqual([j for j in range(25) if (10, j) in takes_input(SECOND, (1, 0, 0))], [2, 4, 8, 10, 14, 16])

    def test_other_examples(self):
        down, up, sums = [read_program(text) for text in MORE[:3]]
        told = takes(down, (0, 0, 0), (0, 0))
        self.assertTrue(told == digit_set(3, ((("is", (0, -1, 1), 1), ("least", (1, 0, -1), 1)),)))
        self.assertTrue(takes_input(down, (0, 0, 0)) == digit_set(2, ((("is", (1, -1), 1),),)))
        self.assertTrue(takes_input(up, (0, 0, 0)) == work_set(up, 0, 0))
        self.assertTrue(takes(sums, (0, 0, 0), (0, 0)) == digit_set(3, ((("is", (0, 1, -1), 1), ("least", (1, -1, 0), 1)),)))
        self.assertTrue(takes_input(sums, (0, 0, 0)) == digit_set(2, ((("is", (0, 1), 0), ("least", (1, 0), 1)),)))
        self.assertTrue(takes_input(sums, (0, 0, 1)) == work_set(sums, 0, 0))
        self.assertEqual([sources_of(sums, (0, 0, 0)), sources_of(sums, (0, 0, 1))], [((0, 0),), ()])
        self.assertEqual(readers_of(sums, (0, 0)), ((0, 0, 0),))

    def test_sources_of_plain_logs(self):
        for program in programs(52, 45):
            logs = {n: plain_sources(program, n) for n in SIZES}
            for read in reads_in(program):
                if or_error(takes_input, program, read) != "TooLarge":
                    self.check_read(program, logs, read)

    def check_read(self, program, logs, read):
        told = takes_of(program, read)
        free = takes_input(program, read)
        for n in SIZES:
            plain = logs[n][read]
            self.assertEqual([j for j in range(20) if (n, j) in free],
                             sorted(j for j in plain if plain[j] is None), program_text(program))
            for writer in told:
                found = [(j, i) for j in range(20) for i in range(20) if (n, j, i) in told[writer]]
                wanted = [(j, plain[j][1]) for j in sorted(plain) if plain[j] and (plain[j][0], plain[j][2]) == writer]
                self.assertEqual(found, wanted, program_text(program))

    def test_sources_and_readers_are_those_of_the_sets(self):
        for program in programs(53, 40):
            readers = {writer: [] for writer in statements_in(program)}
            for read in reads_in(program):
                found = [writer for writer, told in takes_of(program, read).items() if not is_none(told)]
                self.assertEqual(sources_of(program, read), tuple(found), program_text(program))
                for writer in found:
                    readers[writer].append(read)
            for writer in readers:
                self.assertEqual(readers_of(program, writer), tuple(readers[writer]))

    def test_each_read_has_one_source(self):
        for program in programs(54, 25):
            for read in reads_in(program):
                told = list(takes_of(program, read).values())
                free = takes_input(program, read)
                every = free
                for at, part in enumerate(told):
                    self.assertTrue(is_none(both(left_out(part, 2), free)))
                    every = either(every, left_out(part, 2))
                    for other in told[at + 1:]:
                        self.assertTrue(is_none(both(left_out(part, 2), left_out(other, 2))))
                self.assertTrue(every == work_set(program, read[0], read[1]), program_text(program))

    def test_a_source_holds_what_is_read(self):
        for program in programs(55, 12):
            stepper = Stepper(program, 6)
            log = log_program(program, 6)
            numbers = {work: at for at, work in enumerate(log.works)}
            for at, work in enumerate(log.works):
                for number, (array, cell, source) in enumerate(log.takes[at]):
                    stepper.go_to(at)
                    held = stepper.value_of(array, cell)
                    if source is not None:
                        told = takes(program, (work[0], work[2], number), (source[0], source[2]))
                        self.assertTrue((6, work[1], source[1]) in told)
                        stepper.go_to(numbers[source] + 1)
                    else:
                        stepper.go_to(0)
                    self.assertEqual(stepper.value_of(array, cell), held)

    def test_great_sizes(self):
        for n in (BIG, BIG ** 2):
            self.assertTrue((n, 2 * n - 2, n - 1) in takes(SECOND, (1, 0, 0), (0, 0)))
            self.assertTrue((n, n // 2, n // 2 - 1) in takes(FIRST, (1, 0, 0), (1, 0)))
        least = least_of(both(takes(FIRST, (1, 0, 0), (1, 0)), digit_set(3, ((("least", (1, 0, 0), 10 ** 6),),))))
        self.assertEqual(least, (10 ** 6, 2, 1))
        self.assertTrue(is_none(both(takes_input(SECOND, (1, 0, 0)), others(work_set(SECOND, 1, 0)))))

    def test_functions_that_tell_no_set_go_through_large_ones(self):
        large = read_program("for i from 0 below 3 * n:\n if 12 * i >= 11 * n + 997 and 11 * i + 3 * n >= 983: x[i] = 1\n"
                             "for i from 0 below 3 * n:\n if 7 * i >= 12 * n - 991: y[i] = x[i - 1]\n")
        self.assertEqual(or_error(takes, large, (1, 0, 0), (0, 0)), "TooLarge")
        self.assertEqual(sources_of(large, (1, 0, 0)), ((0, 0),))
        self.assertEqual(readers_of(large, (0, 0)), ((1, 0, 0),))


if __name__ == "__main__":
    unittest.main()
