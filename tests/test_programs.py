"""[22] and [23]: programs, their bounds, turns and works."""

import random
import unittest

from loopsize.conditions import AtLeast, Rest
from loopsize.errors import BadName, BadNumber, TooMany
from loopsize.programs import Loop, Program, Read, Statement, same_programs
from loopsize.straights import Place, Straight

I, N = Straight(1, 0, 0), Straight(0, 1, 0)
BIG = 10 ** 30
BAD_NAMES = ("", "a" * 9, "A", "a1", "a_b", "for", "i", "n", "from", "below", "by", "down", "if", "and", "mod", " a",
             "a\n", "\u00e4", None, 5, b"a", ("a",))
GOOD_NAMES = ("a", "z", "abcdefgh", "ii", "nn", "fo", "iff", "mode", "ands")


class BoundsTest(unittest.TestCase):
    def refused(self, what, number, make):
        with self.assertRaises(BadNumber) as caught:
            make()
        self.assertEqual((caught.exception.what, caught.exception.number), (what, number))

    def too_many(self, what, many, limit, make):
        with self.assertRaises(TooMany) as caught:
            make()
        error = caught.exception
        self.assertEqual((error.what, error.many, error.limit), (what, many, limit))

    def bad_name(self, name, make):
        with self.assertRaises(BadName) as caught:
            make()
        self.assertEqual(caught.exception.name, name)

    def test_names(self):
        for name in GOOD_NAMES:
            self.assertEqual(Read(name, I).array, name)
            self.assertEqual(Statement(name, I, 0).array, name)
        for name in BAD_NAMES:
            self.bad_name(name, lambda: Read(name, 13 * I, factor=0))
            self.bad_name(name, lambda: Statement(name, 13 * I, 1000, conditions=[AtLeast(I + 1000)]))

    def test_sums(self):
        for make in (lambda s: Read("a", s), lambda s: Statement("a", s, 0), lambda s: Read("a", Place(s, 1))):
            for k in (12, -12):
                make(Straight(k, 0, 0))
                make(Straight(0, k, 0))
                make(Straight(1, 1, 999 * k // 12))
            for k in (13, -13, BIG):
                self.refused("i", k, lambda: make(Straight(k, k, 10 ** 4)))
                self.refused("n", k, lambda: make(Straight(12, k, 10 ** 4)))
            for k in (1000, -1000, -BIG):
                self.refused("one", k, lambda: make(Straight(12, -12, k)))
        make = Statement("a", 999, 0)
        self.assertEqual((make.cell.i, make.cell.n, make.cell.one), (0, 0, 999))
        self.refused("one", 1000, lambda: Statement("a", 1000, 0))

    def test_places(self):
        self.assertEqual(Read("a", I // 3).place.divisor, 3)
        self.refused("divisor", 4, lambda: Read("a", I // 4))
        self.refused("one", 1000, lambda: Read("a", (I + 1000) // 4))
        read = Read("a", (24 * I + 36 * N + 1998) // 24)
        self.assertEqual((read.place.straight == 2 * I + 3 * N + 166, read.place.divisor), (True, 2))
        self.assertEqual(Read("a", Place(4000, 5)).place(0, 0), 800)
        self.refused("one", 1600, lambda: Read("a", Place(8000, 5)))

    def test_read(self):
        read = Read(array="ab", place=7, factor=-999)
        self.assertEqual((read.array, read.place == Place(7, 1), read.factor), ("ab", True, -999))
        self.assertEqual(Read("a", I).factor, 1)
        self.assertEqual(Read("a", I, factor=999).factor, 999)
        for factor in (0, 1000, -1000, BIG):
            self.refused("factor", factor, lambda: Read("a", 13 * I, factor=factor))
        with self.assertRaises(TypeError):
            Read("a", I, 2)

    def test_statement(self):
        reads, conditions = [Read("b", I)] * 3, [AtLeast(I), Rest(I, 2, 0), AtLeast(N)]
        told = Statement("a", 5, -999, reads=reads, conditions=conditions)
        self.assertEqual((told.reads, told.conditions), (tuple(reads), tuple(conditions)))
        self.assertEqual((told.array, told.cell == Straight(0, 0, 5), told.constant), ("a", True, -999))
        reads.append(None)
        self.assertEqual(len(told.reads), 3)
        told = Statement(array="a", cell=I, constant=999)
        self.assertEqual((told.reads, told.conditions, told.constant), ((), (), 999))
        with self.assertRaises(TypeError):
            Statement("a", I, 0, ())

    def test_errors_of_a_statement_in_order(self):
        read, bad = Read("b", I), AtLeast(13 * I + N)
        self.too_many("reads", 4, 3, lambda: Statement("A", 13 * I, 1000, reads=[read] * 4, conditions=[bad] * 4))
        self.too_many("conditions", 4, 3, lambda: Statement("A", 13 * I, 1000, conditions=[bad] * 4))
        self.bad_name("A", lambda: Statement("A", 13 * I, 1000, conditions=[bad]))
        self.refused("i", 13, lambda: Statement("a", I + 1000, 1000, conditions=[bad]))
        late = AtLeast(I + 5 * N - 1000)
        self.refused("one", -1000, lambda: Statement("a", 13 * I, 1000, conditions=[Rest(99 * I, 2, 0), late, bad]))
        self.refused("i", 14, lambda: Statement("a", 14 * I, 1000, conditions=[Rest(99 * I, 2, 0)]))
        for constant in (1000, -1000):
            self.refused("constant", constant, lambda: Statement("a", I, constant))
        self.assertEqual(len(Statement("a", I, 0, conditions=[AtLeast(24 * I - 24 * N + 5000)] * 3).conditions), 3)

    def test_loop(self):
        loop = Loop(low=(N - 999) // 3, high=3 * N + 999, statements=[], step=1, down=True)
        self.assertEqual((loop.low == (N - 999) // 3, loop.high == Place(3 * N + 999, 1)), (True, True))
        self.assertEqual((loop.statements, loop.step, loop.down), ((), 1, True))
        loop = Loop(0, N, [Statement("a", I, 0)] * 16)
        self.assertEqual((len(loop.statements), loop.step, loop.down), (16, 1, False))
        self.assertIsInstance(loop.statements, tuple)
        with self.assertRaises(TypeError):
            Loop(0, N, [], 2)

    def test_errors_of_a_loop_in_order(self):
        statement = Statement("a", I, 0)
        self.too_many("statements", 17, 16, lambda: Loop(I, I, [statement] * 17, step=0))
        for step in (0, 17, -1):
            self.refused("step", step, lambda: Loop(I, I, [], step=step))
        self.assertEqual(Loop(0, 5, [], step=16).step, 16)
        self.refused("i", 1, lambda: Loop(I - N, I, []))
        self.refused("n", -1, lambda: Loop(1000 - N, I, []))
        self.refused("n", 4, lambda: Loop((4 * N + 1000) // 5, I, []))
        self.refused("one", 1000, lambda: Loop((N + 1000) // 5, I, []))
        self.refused("divisor", 4, lambda: Loop(N // 4, I, []))
        self.refused("i", -1, lambda: Loop(N // 3, -I - N, []))
        self.refused("n", -1, lambda: Loop(N // 3, -N, [], step=2))
        self.refused("divisor", 5, lambda: Loop(N // 3, N // 5, [], step=2))
        self.refused("step", 2, lambda: Loop(N // 2, N, [], step=2))
        self.assertEqual(Loop(N, N // 3, [], step=2).high.divisor, 3)
        self.assertEqual(Loop(0, (6 * N + 12) // 2, []).high.straight.n, 3)

    def test_program(self):
        loops = [Loop(0, N, [Statement("b", I, 1, reads=[Read("zz", I), Read("a", I)]), Statement("b", I, 2)])] * 6
        program = Program(loops=loops)
        self.assertEqual((program.loops, program.arrays), (tuple(loops), ("a", "b", "zz")))
        self.too_many("loops", 7, 6, lambda: Program(loops + loops[:1]))
        self.assertEqual((Program([]).loops, Program(()).arrays), ((), ()))


class SameProgramsTest(unittest.TestCase):
    def program(self, name="a", cell=I, constant=1, place=I, factor=1, low=0, high=N, step=1, down=False, check=None):
        conditions = [AtLeast(I - 1) if check is None else check]
        statement = Statement(name, cell, constant, reads=[Read("r", place, factor=factor)], conditions=conditions)
        return Program([Loop(low, high, [statement], step=step, down=down)])

    def test_each_attribute_counts(self):
        one = self.program()
        self.assertIs(same_programs(one, self.program()), True)
        self.assertIs(same_programs(one=one, other=self.program(place=(2 * I + 1) // 2)), True)
        self.assertIs(same_programs(one, self.program(check=AtLeast(3 * I - 1))), True)
        for other in (self.program(name="b"), self.program(cell=I + 1), self.program(constant=2),
                      self.program(place=I + 1), self.program(place=I // 2), self.program(factor=2),
                      self.program(low=1), self.program(high=N + 1), self.program(step=2), self.program(down=True),
                      self.program(check=AtLeast(I)), self.program(check=Rest(I, 2, 0)), Program([]),
                      Program(one.loops * 2)):
            self.assertIs(same_programs(one, other), False)
            self.assertIs(same_programs(other, one), False)
        rest = self.program(check=Rest(I, 2, 0))
        self.assertIs(same_programs(rest, self.program(check=Rest(3 * I + 2, 2, 0))), True)
        self.assertIs(same_programs(rest, self.program(check=Rest(I, 2, 1))), False)
        self.assertIs(same_programs(rest, self.program(check=Rest(I, 4, 0))), False)
        self.assertIs(same_programs(Program([]), Program(())), True)


class TurnsTest(unittest.TestCase):
    def plain_counters(self, loop, n):
        """The counters in the order of the loop, by going through low, low + step and so on."""
        told = []
        counter = loop.low(0, n)
        while counter < loop.high(0, n):
            if counter >= 0:
                told.append(counter)
            counter += loop.step
        return told[::-1] if loop.down else told

    def test_examples(self):
        loop = Loop(-4, N, [Statement("a", I, 1)], step=3, down=True)
        self.assertEqual([loop.many_turns(10), [loop.counter_of(10, k) for k in range(3)], loop.turn_of(10, 2),
                          loop.turn_of(10, 3)], [3, [8, 5, 2], 2, None])
        self.assertEqual([loop.least_counter(1), loop.many_turns(2), loop.many_turns(BIG), loop.turn_of(BIG, 2)],
                         [2, 0, 333333333333333333333333333333, 333333333333333333333333333332])

    def test_against_plain_counting(self):
        chance = random.Random(65)
        for _ in range(200):
            step = chance.choice([1, 1, 2, 3, 7, 16])
            low = Place(Straight(0, chance.randint(0, 3), chance.randint(-20, 20)), chance.randint(1, 3 if step == 1 else 1))
            high = Place(Straight(0, chance.randint(0, 3), chance.randint(-20, 20)), chance.randint(1, 3))
            loop = Loop(low, high, [], step=step, down=chance.random() < 0.5)
            for n in (0, 1, 2, 5, 11, 30):
                counters = self.plain_counters(loop, n)
                self.assertEqual(loop.many_turns(n), len(counters))
                self.assertEqual([loop.counter_of(n, turn) for turn in range(len(counters))], counters)
                for counter in range(-3, 60):
                    wanted = counters.index(counter) if counter in counters else None
                    self.assertEqual(loop.turn_of(n, counter), wanted)
                least = loop.low(0, n)
                while least < 0:
                    least += step
                self.assertEqual(loop.least_counter(n), least)
                for turn in (-1, len(counters), BIG):
                    with self.assertRaises(BadNumber) as caught:
                        loop.counter_of(n, turn)
                    self.assertEqual((caught.exception.what, caught.exception.number), ("turn", turn))

    def test_great_sizes(self):
        for down in (False, True):
            loop = Loop(N - 7, 3 * N + 5, [], step=16, down=down)
            many = (2 * BIG + 12 + 15) // 16
            self.assertEqual(loop.many_turns(n=BIG), many)
            for turn in (0, 1, 10 ** 20, many - 1):
                counter = loop.counter_of(n=BIG, turn=turn)
                self.assertEqual(counter, BIG - 7 + 16 * (many - 1 - turn if down else turn))
                self.assertEqual(loop.turn_of(n=BIG, counter=counter), turn)
                self.assertEqual(loop.turn_of(BIG, counter + 1), None)
            self.assertEqual(loop.turn_of(BIG, BIG - 7 - 16), None)
            self.assertEqual(loop.turn_of(BIG, BIG - 7 + 16 * many), None)
            with self.assertRaises(BadNumber):
                loop.counter_of(BIG, many)
        self.assertEqual(Loop(0, N // 3, []).many_turns(10 ** 60), 10 ** 60 // 3)

    def test_is_done(self):
        statement = Statement("a", I, 0, conditions=[Rest(I, 3, 1), AtLeast(2 * I - N - 2)])
        for i in range(12):
            for n in range(12):
                self.assertIs(statement.is_done(i, n), i % 3 == 1 and 2 * i > n + 1)
        self.assertIs(Statement("a", I, 0).is_done(i=3, n=BIG), True)


if __name__ == "__main__":
    unittest.main()
