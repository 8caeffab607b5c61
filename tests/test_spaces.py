"""[29] to [32]: turns and works as sets, and cells below 0."""

import unittest

from loopsize.errors import NoLoop, NoStatement, TooLarge
from loopsize.members import next_of, tail_of
from loopsize.runs import works_of
from loopsize.spaces import bad_cell, sizes_with_every_turn, sizes_with_work, turn_set, turns_differ, work_set
from loopsize.texts import program_text, read_program
from tests.samples import accesses_of, or_error, random_programs, statements_in

BIG = 10 ** 30
SIZES = range(13)
NONE = (-1, 9, True, None, "0", 0.0, (0,), [])
P = read_program("for i from 0 below n:\n if i mod 2 == 0: x[i] = 1\n y[i] = x[i]\n"
                 "for i from 1 below 2 * n by 3 down:\n z[i] = y[i - 3]\n")
EDGES = (
    "for i from 0 below n:\n",
    "for i from n below n - 4:\n x[i] = 1\n",
    "for i from n below 3:\n x[i] = 1\n if n mod 3 == 1 and i >= n + 1 and i mod 2 == 0: y[i] = x[i - 1]\n",
    "for i from n - 7 below n by 5:\n x[i - 6] = x[(i - n) // 3]\nfor i from n - 7 below n by 5 down:\n x[i] = 1\n",
    "for i from (n - 3) // 2 below (3 * n + 1) // 2:\n if i >= n: x[n - i] = x[n - 2 * i + 4]\n",
    "for i from 2 * n - 9 below 3 * n - 8 by 4 down:\n if n - i >= 0 and (i + n) mod 4 == 2: x[2 - i] = x[0] + x[-1]\n",
)


def counters_of(loop, n):
    return [loop.counter_of(n, turn) for turn in range(loop.many_turns(n))]


def programs(seed, many):
    return [read_program(text) for text in EDGES] + random_programs(seed, many)


class SpacesTest(unittest.TestCase):
    def test_examples(self):
        self.assertEqual(
            [(7, 10) in turn_set(P, 1), (7, 13) in turn_set(P, 1), (7, 12) in turn_set(P, 1),
             (7, 3) in work_set(P, 0, 0), (7, 4) in work_set(P, 0, 0)], [True, True, False, False, True])
        self.assertEqual([[n in sizes_with_work(P, 1, 0) for n in range(3)],
                          [n in sizes_with_every_turn(P, 0, 0) for n in range(4)]],
                         [[False, True, True], [True, True, False, False]])
        self.assertEqual([turns_differ(P, 0, P, 0), turns_differ(P, 0, P, 1), bad_cell(P)],
                         [None, (1, 0), (1, 1, 1, 0, 0)])

    def test_sets_hold_the_turns_and_works_of_plain_runs(self):
        for program in programs(31, 40):
            works = {n: works_of(program, n) for n in SIZES}
            for place, loop in enumerate(program.loops):
                told = turn_set(program, place)
                for n in SIZES:
                    inside = [i for i in range(45) if (n, i) in told]
                    self.assertEqual(inside, sorted(counters_of(loop, n)), program_text(program))
            for loop, statement in statements_in(program):
                self.check_statement(program, works, loop, statement)

    def check_statement(self, program, works, loop, statement):
        told = work_set(program, loop, statement)
        some = sizes_with_work(program, loop, statement)
        every = sizes_with_every_turn(program, loop, statement)
        self.assertEqual([told.arity, some.arity, every.arity], [2, 1, 1])
        for n in SIZES:
            done = sorted(work[1] for work in works[n] if (work[0], work[2]) == (loop, statement))
            self.assertEqual([i for i in range(45) if (n, i) in told], done, program_text(program))
            self.assertIs(n in some, bool(done))
            self.assertIs(n in every, len(done) == program.loops[loop].many_turns(n))

    def test_great_sizes(self):
        turns = turn_set(P, 1)
        self.assertEqual(next_of(turns, BIG), (BIG, 1))
        for i, wanted in ((2 * BIG - 1, True), (2 * BIG + 2, False), (BIG, True), (BIG + 1, False)):
            self.assertIs((BIG, i) in turns, wanted)
        far = BIG ** 3
        self.assertTrue((far, 3 * (2 * far // 3) - 2) in turns)
        self.assertFalse((far, 2 * far + 1) in turns)
        self.assertEqual(tail_of(sizes_with_work(P, 1, 0)), (1, 1, (0,), ()))
        self.assertEqual(tail_of(sizes_with_every_turn(P, 0, 0)), (2, 1, (), (0, 1)))
        self.assertEqual(tail_of(sizes_with_every_turn(P, 0, 1)), (0, 1, (0,), ()))
        late = read_program("for i from 2 * n below n + 999:\n if n mod 4 == 3: x[i] = 1\n")
        self.assertEqual(tail_of(sizes_with_work(late, 0, 0)), (996, 1, (), tuple(range(3, 996, 4))))

    def test_the_direction_does_not_matter(self):
        up = read_program("for i from 3 below 2 * n by 4:\n x[i] = 1\n")
        down = read_program("for i from 3 below 2 * n by 4 down:\n x[i] = 1\n")
        self.assertTrue(turn_set(up, 0) == turn_set(down, 0))
        self.assertTrue(work_set(up, 0, 0) == work_set(down, 0, 0))
        self.assertIsNone(turns_differ(up, 0, down, 0))

    def test_turns_differ_at_the_least_size_and_counter(self):
        made = programs(32, 30)
        for first, second in zip(made, made[1:]):
            for a, one in enumerate(first.loops):
                for b, other in enumerate(second.loops):
                    unlike = [(n, i) for n in SIZES for i in sorted(set(counters_of(one, n)) ^ set(counters_of(other, n)))]
                    told = turns_differ(first, a, second, b)
                    if unlike:
                        self.assertEqual(told, unlike[0], program_text(first) + program_text(second))
                    elif told is not None:
                        n, i = told
                        self.assertGreaterEqual(n, len(SIZES))
                        self.assertNotEqual(one.turn_of(n, i) is None, other.turn_of(n, i) is None)

    def test_turns_that_differ_late(self):
        first = read_program("for i from 0 below 3 * n:\nfor i from 1 below 2 * n by 2:\n")
        second = read_program("for i from 0 below 2 * n + 999:\nfor i from 1 below 2 * n - 1 by 2:\n")
        self.assertEqual(turns_differ(first, 0, second, 0), (0, 0))
        self.assertEqual(turns_differ(first, 1, second, 1), (1, 1))
        odd = read_program("for i from 0 below (3 * n + 999) // 2:\n")
        other = read_program("for i from 0 below (3 * n + 998) // 2:\n")
        self.assertEqual(turns_differ(odd, 0, other, 0), (1, 500))
        late = read_program("for i from 999 below n:\n")
        self.assertEqual(turns_differ(late, 0, read_program("for i from 0 below 0:\n"), 0), (1000, 999))

    def test_bad_cell_is_the_first_one_in_order(self):
        for program in programs(33, 60):
            found = [(n, *work, access) for n in SIZES for work in works_of(program, n)
                     for access, (_, cell) in enumerate(accesses_of(program, work, n)) if cell < 0]
            told = bad_cell(program)
            if found:
                self.assertEqual(told, found[0], program_text(program))
            elif told is not None:
                n, loop, counter, statement, access = told
                self.assertGreaterEqual(n, len(SIZES))
                self.assertIsNotNone(program.loops[loop].turn_of(n, counter))
                self.assertTrue(program.loops[loop].statements[statement].is_done(counter, n))
                self.assertLess(accesses_of(program, told[1:4], n)[access][1], 0)

    def test_bad_cells_that_come_late(self):
        late = read_program("for i from 0 below n down:\n x[0] = 1\n if n >= 800 and i >= 700: x[i] = x[751 - i] + x[-1]\n")
        self.assertEqual(bad_cell(late), (800, 0, 799, 1, 0))
        write = read_program("for i from 0 below n:\n if i >= 12: x[11 - i] = x[i]\n")
        self.assertEqual(bad_cell(write), (13, 0, 12, 0, 1))
        self.assertIsNone(bad_cell(read_program("for i from 1 below n:\n x[i - 1] = x[(i - 1) // 3]\n")))
        self.assertEqual(bad_cell(read_program("for i from 0 below n:\n x[i] = x[(i - 1) // 3]\n")), (1, 0, 0, 0, 0))

    def test_errors(self):
        for value in NONE:
            for call in (lambda: turn_set(P, value), lambda: work_set(P, value, 7), lambda: sizes_with_work(P, value, 7),
                         lambda: sizes_with_every_turn(P, value, 7), lambda: turns_differ(P, value, P, "no"),
                         lambda: turns_differ(P, 0, P, value)):
                with self.assertRaises(NoLoop) as caught:
                    call()
                self.assertIs(caught.exception.loop, value)
            for call in (work_set, sizes_with_work, sizes_with_every_turn):
                with self.assertRaises(NoStatement) as caught:
                    call(P, 1, value)
                self.assertEqual(caught.exception.loop, 1)
                self.assertIs(caught.exception.statement, value)

    def test_sets_that_are_too_large(self):
        text = "for i from 0 below 3 * n:\n if 12 * i >= 11 * n + 997 and 11 * i + 3 * n >= 983 and (i + n) mod 3 == 0: x[i] = 1\n"
        large = read_program(text)
        self.assertEqual(or_error(work_set, large, 0, 0), "TooLarge")
        self.assertTrue(BIG in sizes_with_work(large, 0, 0))
        self.assertFalse(3 in sizes_with_work(large, 0, 0))
        with self.assertRaises(TooLarge) as caught:
            work_set(large, 0, 0)
        self.assertEqual(caught.exception.most, 400)
        self.assertIsNone(bad_cell(large))


if __name__ == "__main__":
    unittest.main()
