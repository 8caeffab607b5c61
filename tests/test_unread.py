"""[44] to [46]: works that nobody reads, works that write over others, and the examples by hand."""

import unittest

from loopsize.digitsets import digit_set, is_none
from loopsize.errors import NoLoop, NoStatement
from loopsize.lasts import stays
from loopsize.programs import Loop, Program, Statement
from loopsize.conditions import AtLeast
from loopsize.runs import log_program
from loopsize.spaces import work_set
from loopsize.texts import program_text, read_program
from loopsize.unread import idle, overwritten, unread
from tests.samples import or_error, statements_in
from tests.test_flows import FIRST, MORE, SECOND, programs
from tests.test_lasts import TWICE
from tests.test_spaces import NONE

BIG = 10 ** 30
SIZES = range(7)


def plain_idle(program, n):
    """For each work at a size whether it is read, whether it stays, and the next work that writes its cell."""
    log = log_program(program, n)
    read = {source for taken in log.takes for _, _, source in taken}
    told = {}
    for at, work in enumerate(log.works):
        behind = [log.works[k] for k in range(at + 1, len(log.works)) if log.writes[k] == log.writes[at]]
        told[work] = (work in read, not behind, behind[0] if behind else None)
    return told


class UnreadTest(unittest.TestCase):
    def test_examples(self):
        inner = digit_set(2, ((("least", (0, 1), 1), ("least", (1, -1), 1)),))
        self.assertTrue(idle(FIRST, (0, 0)) == inner)
        told = unread(FIRST, (0, 0))
        for n in range(8):
            self.assertEqual([i for i in range(12) if (n, i) in told], [0] if n == 1 else list(range(1, n)))
        self.assertTrue((BIG, BIG - 1) in told)
        self.assertFalse((BIG, 0) in told)
        self.assertTrue(stays(FIRST, (0, 0)) == digit_set(2, ((("is", (0, 1), 0), ("least", (1, 0), 1)),)))
        same = digit_set(3, ((("is", (0, 1, -1), 0), ("least", (0, 1, 0), 1), ("least", (1, -1, 0), 1)),))
        self.assertTrue(overwritten(FIRST, (0, 0), (1, 0)) == same)
        self.assertTrue(is_none(overwritten(FIRST, (1, 0), (0, 0))))
        start = digit_set(3, ((("is", (0, 1, 0), 0), ("is", (0, 0, 1), 0), ("least", (1, 0, 0), 1)),))
        self.assertTrue(overwritten(TWICE, (0, 0), (0, 1)) == start)
        self.assertTrue((BIG, 3 * 10 ** 29, 2 * 10 ** 29) in overwritten(TWICE, (0, 1), (0, 0)))

    def test_plain_logs(self):
        for program in programs(71, 45):
            plain = {n: plain_idle(program, n) for n in SIZES}
            for writer in statements_in(program):
                told = [or_error(function, program, writer) for function in (unread, idle)]
                for n in SIZES:
                    works = {i: (writer[0], i, writer[1]) for i in range(20)}
                    fresh = [i for i in works if works[i] in plain[n] and not plain[n][works[i]][0]]
                    wanted = [fresh, [i for i in fresh if not plain[n][works[i]][1]]]
                    for found, inside in zip(told, wanted):
                        if found != "TooLarge":
                            self.assertEqual([i for i in works if (n, i) in found], inside, program_text(program))

    def test_overwritten_by_plain_logs(self):
        for program in programs(72, 12):
            plain = {n: plain_idle(program, n) for n in SIZES}
            for writer in statements_in(program):
                for other in statements_in(program):
                    told = overwritten(program, writer, other)
                    for n in SIZES:
                        wanted = [(then[1], work[1]) for work, (_, _, then) in plain[n].items()
                                  if (work[0], work[2]) == writer and then and (then[0], then[2]) == other]
                        found = [(j, i) for j in range(18) for i in range(18) if (n, j, i) in told]
                        self.assertEqual(found, sorted(wanted), program_text(program))

    def test_idle_works_may_be_left_out(self):
        done = 0
        for program in programs(73, 30):
            for loop, statement in statements_in(program):
                told = or_error(idle, program, (loop, statement))
                if told == "TooLarge" or not told == work_set(program, loop, statement):
                    continue
                done += 1
                less = without_works(program, loop, statement)
                for n in SIZES:
                    one, other = log_program(program, n), log_program(less, n)
                    taken = dict(zip(other.works, other.takes))
                    for work, parts in zip(one.works, one.takes):
                        if (work[0], work[2]) != (loop, statement):
                            self.assertEqual(taken[work], parts)
                    for write in one.writes:
                        self.assertEqual(one.last_writer(*write), other.last_writer(*write))
        self.assertGreater(done, 5)

    def test_arrays_that_are_only_read_or_only_written(self):
        self.assertTrue(unread(SECOND, (1, 0)) == work_set(SECOND, 1, 0))
        self.assertTrue(is_none(idle(SECOND, (1, 0))))
        sums = read_program(MORE[2])
        self.assertTrue(unread(sums, (0, 0)) == digit_set(2, ((("is", (1, -1), 1),),)))
        self.assertTrue(is_none(idle(sums, (0, 0))))
        over = overwritten(sums, (0, 0), (0, 0))
        self.assertTrue(over == digit_set(3, ((("is", (0, 1, -1), 1), ("least", (1, -1, 0), 1)),)))

    def test_errors_and_their_order(self):
        for value in NONE:
            for call, wanted in (
                (lambda: unread(FIRST, (value, 9)), NoLoop), (lambda: unread(FIRST, (1, value)), NoStatement),
                (lambda: idle(FIRST, [value, 9]), NoLoop), (lambda: idle(FIRST, (1, value)), NoStatement),
                (lambda: overwritten(FIRST, (value, 9), (9, 9)), NoLoop),
                (lambda: overwritten(FIRST, (0, value), (9, 9)), NoStatement),
                (lambda: overwritten(FIRST, (0, 0), (value, 9)), NoLoop),
                (lambda: overwritten(FIRST, [0, 0], [1, value]), NoStatement),
            ):
                with self.assertRaises(wanted) as caught:
                    call()
                self.assertTrue(any(field is value for field in vars(caught.exception).values()))


def without_works(program, loop, statement):
    """The program with a condition that never holds ahead of all works of a statement."""
    loops = []
    for place, old in enumerate(program.loops):
        statements = list(old.statements)
        if place == loop:
            gone = statements[statement]
            statements[statement] = Statement(gone.array, gone.cell, gone.constant, reads=gone.reads,
                                              conditions=[AtLeast(-1)])
        loops.append(Loop(old.low, old.high, statements, step=old.step, down=old.down))
    return Program(loops)


if __name__ == "__main__":
    unittest.main()
