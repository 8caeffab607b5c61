"""[26] to [28]: plain runs, logs and steppers."""

import random
import unittest

from loopsize.errors import AtEnd, AtStart, BadName, BadNumber, BadSize, NoWork, TooLong
from loopsize.programs import Program
from loopsize.runs import Log, Run, Stepper, first_difference, input_value, log_program, run_program
from loopsize.texts import program_text, read_program
from tests.test_programs import BAD_NAMES
from tests.test_texts import random_program

MODULUS = 1000003
BIG = 10 ** 30
BAD_SIZES = (-1, BIG + 1, True, False, None, 1.0, "1", (1,), [])
SMALL = "for i from 0 below n:\n a[i] = 1 + 2 * b[i]\n if i >= 1: c[0] = a[i] - a[i - 1]\n"


def plain_input(array, cell):
    return (7 * cell + 3 * sum(ord(letter) - 96 for letter in array) + 1) % MODULUS


def plain_works(program, n):
    told = []
    for place, loop in enumerate(program.loops):
        counters = [c for c in range(loop.low(0, n), loop.high(0, n), loop.step) if c >= 0]
        for counter in reversed(counters) if loop.down else counters:
            for number, statement in enumerate(loop.statements):
                if all(condition.holds(counter, n) for condition in statement.conditions):
                    told.append((place, counter, number))
    return told


def plain_run(program, n, start=()):
    """All works in order: (works, cells, values ahead of each work)."""
    cells = {}
    for array, cell, value in start:
        cells[array, cell] = value % MODULUS
    works = plain_works(program, n)
    states = [dict(cells)]
    for place, counter, number in works:
        statement = program.loops[place].statements[number]
        value = statement.constant
        for read in statement.reads:
            key = read.array, read.place(counter, n)
            value += read.factor * cells.get(key, plain_input(*key))
        cells[statement.array, statement.cell(counter, n)] = value % MODULUS
        states.append(dict(cells))
    return works, cells, states


def programs(seed, many):
    """Random programs with sizes at which they are small; their arrays meet often."""
    chance = random.Random(seed)
    told = []
    while len(told) < many:
        text = program_text(random_program(chance)).replace("abcdefgh", "y")
        program = read_program(text)
        if all(loop.many_turns(9) < 60 for loop in program.loops):
            told.append(program)
    told.append(read_program(SMALL))
    told.append(read_program("for i from 0 below n:\n s[0] = s[0] + x[i]\nfor i from 1 below 2 * n by 3 down:\n"
                             " if i mod 2 == 1: x[n - i] = s[0] - 2 * x[n // 2] + 5 * s[i]\n s[i - 3] = x[i]\n"))
    return told


STARTS = ((), (("a", 0, 5), ("b", -3, -1), ("a", 0, 7)), [["x", 2, BIG], ["zz", 10 ** 20, MODULUS]])


class InputTest(unittest.TestCase):
    def test_values(self):
        self.assertEqual([input_value("a", 5), input_value("ab", -1)], [39, 3])
        for array in ("a", "z", "abcdefgh", "zzzzzzzz"):
            for cell in (0, 1, -1, -10 ** 9, BIG, -BIG):
                self.assertEqual(input_value(array=array, cell=cell), plain_input(array, cell))
                self.assertTrue(0 <= input_value(array, cell) < MODULUS)

    def test_bad_names(self):
        for name in BAD_NAMES:
            with self.assertRaises(BadName) as caught:
                input_value(name, 0)
            self.assertEqual(caught.exception.name, name)


class RunTest(unittest.TestCase):
    def test_example(self):
        small = read_program(SMALL)
        run = run_program(small, 2)
        self.assertEqual([run.cells_of("a"), run.cells_of("c")], [((0, 15), (1, 29)), ((0, 14),)])
        other = run_program(small, 2, start=[("b", 1, -1)])
        self.assertEqual(first_difference(run_program(small, 2), other), ("a", 1))

    def test_against_a_plain_walk(self):
        for program in programs(81, 60):
            for n in (0, 1, 4, 9):
                for start in STARTS:
                    works, cells, _ = plain_run(program, n, start)
                    run = run_program(program, n, start=start)
                    self.assertEqual(run.many_works, len(works))
                    for array in ("a", "b", "x", "y", "s", "zz", "q"):
                        wanted = sorted((cell, value) for (own, cell), value in cells.items() if own == array)
                        self.assertEqual(run.cells_of(array), tuple(wanted))
                        for cell in range(-12, 13):
                            self.assertEqual(run.value_of(array, cell),
                                             cells.get((array, cell), plain_input(array, cell)))

    def test_kinds_and_names(self):
        run = run_program(program=read_program(SMALL), n=3)
        self.assertIsInstance(run, Run)
        self.assertIsInstance(run.cells_of(array="a"), tuple)
        self.assertEqual((run.cells_of("b"), run.value_of(array="b", cell=4)), ((), plain_input("b", 4)))
        for name in BAD_NAMES:
            for function in (lambda: run.cells_of(name), lambda: run.value_of(name, 0)):
                with self.assertRaises(BadName) as caught:
                    function()
                self.assertEqual(caught.exception.name, name)

    def test_start_is_put_in_in_order_and_not_changed(self):
        start = [("a", 1, -1), ("a", 1, 3), ("b", 2, MODULUS + 4)]
        run = run_program(Program([]), 0, start=start)
        self.assertEqual((run.many_works, run.cells_of("a"), run.cells_of("b")), (0, ((1, 3),), ((2, 4),)))
        self.assertEqual(start, [("a", 1, -1), ("a", 1, 3), ("b", 2, MODULUS + 4)])
        with self.assertRaises(TypeError):
            run_program(Program([]), 0, start)

    def test_values_below_0_come_round(self):
        run = run_program(read_program("for i from 0 below 1:\n a[-5] = -7\n b[0] = -999 * a[-5]\n"), 0)
        self.assertEqual((run.value_of("a", -5), run.value_of("b", 0)), (MODULUS - 7, 6993))

    def test_first_difference(self):
        first = run_program(read_program("for i from 0 below n:\n b[i] = 1\n"), 3)
        second = run_program(read_program("for i from 0 below n:\n b[i - 1] = 1\n"), 3)
        self.assertEqual(first_difference(one=first, other=second), ("b", -1))
        self.assertEqual(first_difference(second, first), ("b", -1))
        self.assertEqual(first_difference(first, first), None)
        nothing = run_program(Program([]), 0)
        self.assertEqual(first_difference(nothing, first), ("b", 0))
        same = run_program(Program([]), 0, start=[("q", 4, plain_input("q", 4))])
        self.assertEqual(first_difference(nothing, same), None)
        late = run_program(Program([]), 0, start=[("b", 0, 1), ("b", 1, 1), ("b", 2, 1), ("ab", 99, 0)])
        self.assertEqual(first_difference(late, first), ("ab", 99))


class ErrorsTest(unittest.TestCase):
    def makers(self):
        return (run_program, Stepper)

    def test_sizes_come_first(self):
        long = read_program("for i from 0 below 3 * n:\nfor i from 0 below 999:\n")
        for n in BAD_SIZES:
            for make in self.makers() + (lambda program, n, start: log_program(program, n),):
                with self.assertRaises(BadSize) as caught:
                    make(long, n, start=[("A", 0, 0)])
                self.assertEqual(caught.exception.n, n)

    def test_then_runs_that_are_too_long(self):
        long = read_program("for i from 0 below n:\nfor i from 0 below n by 2:\n")
        for n, many in ((13334, 20001), (BIG, BIG + BIG // 2)):
            for make in self.makers() + (lambda program, n, start: log_program(program, n),):
                with self.assertRaises(TooLong) as caught:
                    make(long, n, start=[("A", 0, 0)])
                self.assertEqual(caught.exception.many, many)

    def test_the_longest_run(self):
        long = read_program("for i from 0 below n:\n a[0] = 1 + a[0]\nfor i from 0 below n by 2:\n")
        self.assertEqual(run_program(long, 13333).many_works, 13333)
        self.assertEqual(len(log_program(long, 13333).works), 13333)

    def test_turns_count_and_not_works(self):
        idle = read_program("for i from 0 below n:\n if 0 > 1: a[i] = 1\n")
        self.assertEqual(run_program(idle, 20000).many_works, 0)
        with self.assertRaises(TooLong) as caught:
            run_program(idle, 20001)
        self.assertEqual(caught.exception.many, 20001)
        many = read_program("for i from 0 below n:\n" + " a[i] = 1\n" * 16)
        self.assertEqual(run_program(many, 2000).many_works, 32000)

    def test_then_names_in_start(self):
        for make in self.makers():
            with self.assertRaises(BadName) as caught:
                make(read_program(SMALL), 3, start=[("a", 0, 0), ("if", 0, 0), ("A", 0, 0)])
            self.assertEqual(caught.exception.name, "if")


class LogTest(unittest.TestCase):
    def test_example(self):
        log = log_program(read_program(SMALL), 2)
        self.assertEqual([log.works, log.writes[2], log.takes[2], log.term_of((0, 1, 1), 2)[1][1]],
                         [((0, 0, 0), (0, 1, 0), (0, 1, 1)), ("c", 0),
                          (("a", 1, (0, 1, 0)), ("a", 0, (0, 0, 0))), ((0, 0, 0), (("b", 0),))])

    def test_against_a_plain_walk(self):
        for program in programs(82, 60):
            for n in (0, 1, 5, 9):
                log = log_program(program=program, n=n)
                works = plain_works(program, n)
                self.assertEqual(log.works, tuple(works))
                last = {}
                for at, work in enumerate(works):
                    statement = program.loops[work[0]].statements[work[2]]
                    cells = [(read.array, read.place(work[1], n)) for read in statement.reads]
                    self.assertEqual(log.takes[at], tuple((*cell, last.get(cell)) for cell in cells))
                    write = statement.array, statement.cell(work[1], n)
                    self.assertEqual(log.writes[at], write)
                    last[write] = work
                for cell in range(-12, 13):
                    for array in ("a", "b", "x", "y", "s", "A", "for", ""):
                        self.assertEqual(log.last_writer(array, cell), last.get((array, cell)))

    def plain_term(self, log, work, depth):
        if depth == 0:
            return work
        told = []
        for array, cell, source in log.takes[log.works.index(work)]:
            told.append((array, cell) if source is None else self.plain_term(log, source, depth - 1))
        return work, tuple(told)

    def test_terms(self):
        sums = read_program("for i from 0 below n:\n s[0] = s[0] + x[i] - s[1]\n s[1] = s[0] - s[1]\n")
        log = log_program(sums, 6)
        for work in log.works:
            for depth in range(5):
                self.assertEqual(log.term_of(work=work, depth=depth), self.plain_term(log, work, depth))
                self.assertEqual(log.term_of(list(work), depth), log.term_of(work, depth))
        self.assertEqual(log.term_of((0, 0, 0), 4), ((0, 0, 0), (("s", 0), ("x", 0), ("s", 1))))

    def test_errors(self):
        log = log_program(read_program(SMALL), 2)
        for work in ((0, 0, 1), (0, 2, 0), (1, 0, 0), (0, -1, 0), (-1, 0, 0), (0, 0, -2), (BIG, BIG, BIG)):
            with self.assertRaises(NoWork) as caught:
                log.term_of(work, 9)
            self.assertEqual(caught.exception.work, work)
        for depth in (-1, 5, BIG):
            with self.assertRaises(BadNumber) as caught:
                log.term_of((0, 0, 0), depth)
            self.assertEqual((caught.exception.what, caught.exception.number), ("depth", depth))

    def test_kinds(self):
        log = log_program(read_program(SMALL), 2)
        self.assertIsInstance(log, Log)
        for part in (log.works, log.writes, log.takes, log.works[0], log.writes[0], log.takes[0], log.takes[0][0]):
            self.assertIsInstance(part, tuple)
        empty = log_program(Program([]), 0)
        self.assertEqual((empty.works, empty.writes, empty.takes, empty.last_writer("a", 0)), ((), (), (), None))


class StepperTest(unittest.TestCase):
    def test_example(self):
        stepper = Stepper(read_program(SMALL), 2, start=[("b", 1, -1)])
        stepper.go_to(2)
        self.assertEqual([stepper.next_work(), stepper.value_of("a", 1)], [(0, 1, 1), 1000002])

    def check(self, stepper, works, states, at):
        self.assertEqual(stepper.many_done(), at)
        self.assertEqual(stepper.next_work(), works[at] if at < len(works) else None)
        for array in ("a", "b", "s", "x"):
            for cell in range(-9, 10):
                self.assertEqual(stepper.value_of(array, cell), states[at].get((array, cell), plain_input(array, cell)))

    def test_against_a_plain_walk(self):
        chance = random.Random(83)
        for program in programs(84, 25):
            for start in STARTS:
                works, _, states = plain_run(program, 5, start)
                stepper = Stepper(program=program, n=5, start=start)
                at = 0
                self.check(stepper, works, states, 0)
                for _ in range(12):
                    kind = chance.choice(["do", "undo", "go"])
                    if kind == "do" and at < len(works):
                        self.assertIsNone(stepper.do_work())
                        at += 1
                    elif kind == "undo" and at > 0:
                        self.assertIsNone(stepper.undo_work())
                        at -= 1
                    else:
                        at = chance.randint(0, len(works))
                        self.assertIsNone(stepper.go_to(many=at))
                    self.check(stepper, works, states, at)

    def test_beyond_its_ends_nothing_changes(self):
        program = read_program(SMALL)
        works, _, states = plain_run(program, 3)
        stepper = Stepper(program, 3)
        with self.assertRaises(AtStart):
            stepper.undo_work()
        self.check(stepper, works, states, 0)
        stepper.go_to(len(works))
        with self.assertRaises(AtEnd):
            stepper.do_work()
        self.check(stepper, works, states, len(works))
        stepper.go_to(2)
        for many in (-1, len(works) + 1, BIG, True, None, "2", 2.0):
            with self.assertRaises(BadNumber) as caught:
                stepper.go_to(many)
            self.assertEqual((caught.exception.what, caught.exception.number), ("many", many))
            self.check(stepper, works, states, 2)
        stepper.go_to(0)
        self.check(stepper, works, states, 0)
        stepper.go_to(len(works))
        self.check(stepper, works, states, len(works))

    def test_two_steppers_do_not_meet(self):
        program = read_program(SMALL)
        start = [("b", 0, 9)]
        one, other = Stepper(program, 3, start=start), Stepper(program, 3, start=start)
        works, cells, states = plain_run(program, 3, start)
        one.go_to(len(works))
        self.check(other, works, states, 0)
        other.go_to(3)
        one.go_to(1)
        self.check(one, works, states, 1)
        self.check(other, works, states, 3)
        self.assertEqual(run_program(program, 3, start=start).value_of("c", 0), cells["c", 0])
        self.assertEqual(start, [("b", 0, 9)])

    def test_without_works(self):
        stepper = Stepper(Program([]), 0)
        self.assertEqual((stepper.many_done(), stepper.next_work()), (0, None))
        for error, step in ((AtEnd, stepper.do_work), (AtStart, stepper.undo_work)):
            with self.assertRaises(error):
                step()
        self.assertIsNone(stepper.go_to(0))

    def test_bad_names(self):
        stepper = Stepper(read_program(SMALL), 2)
        for name in BAD_NAMES:
            with self.assertRaises(BadName):
                stepper.value_of(array=name, cell=0)

    def test_start_stays_when_works_are_taken_back(self):
        stepper = Stepper(read_program("for i from 0 below 2:\n a[0] = 4\n"), 0, start=[("a", 0, 9)])
        stepper.go_to(2)
        self.assertEqual(stepper.value_of("a", 0), 4)
        stepper.undo_work()
        self.assertEqual(stepper.value_of("a", 0), 4)
        stepper.undo_work()
        self.assertEqual(stepper.value_of("a", 0), 9)


if __name__ == "__main__":
    unittest.main()
