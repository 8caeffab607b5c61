"""[69]: programs that move alike, reads that are put elsewhere, and statements that are dropped."""

import random
import unittest

from loopsize.errors import BadName, BadNumber, Deep, LoopError, Mixing, NoLoop, NoRead, NoStatement, NotSame, Taken
from loopsize.moves import drop, forward, same_contents
from loopsize.programs import Program, Read, same_programs
from loopsize.rewriting import swap_loops, turn_loop
from loopsize.runs import first_difference, log_program, run_program
from loopsize.straights import Place, Straight
from loopsize.texts import program_text, read_program
from loopsize.unread import idle
from tests.plainpaths import PlainPaths, is_plain_copy, random_mover
from tests.samples import or_error, random_programs, reads_in, statements_in

BIG = 10 ** 30
SIZES = range(9)
AROUND = read_program("for i from 0 below n:\n t[n - 1 - i] = x[i]\nfor i from 0 below n:\n x[i] = t[i]\n")
LATE = read_program("for i from 0 below n:\n t[n - i] = x[i]\nfor i from 0 below n:\n x[i] = t[i]\n")
AGAIN = read_program("for i from 0 below n:\n t[i] = x[i]\nfor i from 0 below n:\n y[i] = 1 + t[i]\n")
DEEP = "for i from 0 below n:\n b[i] = a[i]\n c[i] = b[i]\n d[i] = c[i]\n e[i] = d[i]\n if i >= 2: f[i] = e[i]\n"


def plain_unlike(first, second, n):
    """The pairs (array, cell) that hold unlike inputs at a size, of cells from 0 on that are written."""
    one, other = PlainPaths(first, n), PlainPaths(second, n)
    written = {cell for paths in (one, other) for cell in paths.log.writes if cell[1] >= 0}
    return sorted(cell for cell in written if one.path_of_cell(*cell)[1] != other.path_of_cell(*cell)[1])


class SameContentsTest(unittest.TestCase):
    def test_examples(self):
        self.assertEqual([same_contents(AROUND, AROUND), same_contents(AROUND, LATE)], [None, (1, "t", 0)])

    def test_contents_by_plain_logs(self):
        chance = random.Random(321)
        met = set()
        for _ in range(60):
            first = random_mover(chance, most_loops=2)
            second = self.changed(chance, first)
            told = or_error(same_contents, first, second)
            found = [(n, *cell) for n in SIZES for cell in plain_unlike(first, second, n)[:1]]
            if told == "Deep":
                met.add(told)
            elif found:
                self.assertEqual(told, found[0], program_text(first) + program_text(second))
                met.add("unlike")
            else:
                self.assertTrue(told is None or told[0] >= len(SIZES))
                met.add(told is None)
        self.assertTrue({True, "unlike", "Deep"} <= met, met)

    def changed(self, chance, program):
        loop = chance.randrange(len(program.loops))
        if chance.random() < 0.5:
            return turn_loop(program, loop).after
        return swap_loops(program, 0).after if len(program.loops) > 1 else random_mover(chance, most_loops=1)

    def test_arrays_that_one_program_has_alone(self):
        none = Program([])
        copy = read_program("for i from 0 below n:\n x[i] = a[i]\n")
        back = read_program("for i from 0 below n:\n x[i] = x[i]\n")
        self.assertEqual([same_contents(none, none), same_contents(copy, none), same_contents(none, copy)],
                         [None, (1, "x", 0), (1, "x", 0)])
        self.assertEqual([same_contents(back, none), same_contents(none, back), same_contents(copy, copy)], [None] * 3)
        more = read_program("for i from 0 below n:\n x[i] = a[i]\nfor i from 0 below n:\n b[i + 3] = b[i + 3]\n b[-i - 1] = c[i]\n")
        self.assertEqual([same_contents(copy, more), same_contents(more, copy)], [None, None])
        late = read_program("for i from 0 below n:\n x[i] = a[i]\nfor i from 900 below n:\n b[i] = x[i]\n a[i - 5] = x[i]\n")
        self.assertEqual(same_contents(copy, late), (901, "a", 895))

    def test_least_differences(self):
        one = read_program("for i from 0 below n:\n y[i] = a[i]\n if i >= 3: x[i] = a[i]\n")
        other = read_program("for i from 0 below n:\n if i <= 2: y[i] = a[i]\n if i >= 3: y[i] = a[i + 1]\n if i >= 3: x[i] = b[i]\n")
        self.assertEqual(same_contents(one, other), (4, "x", 3))
        self.assertEqual(same_contents(other, one), (4, "x", 3))

    def test_mixing_and_its_order(self):
        mixed = read_program("for i from 0 below n:\n y[i] = a[i]\nfor i from 0 below n:\n y[i] = a[i]\n y[i] = 1 + a[i]\n y[i] = 3\n")
        other = read_program("for i from 5 below 5:\n y[i] = 2 * a[i]\n")
        deep = read_program(DEEP)
        for first, second, loop, statement in ((mixed, other, 1, 1), (other, mixed, 0, 0), (deep, mixed, 1, 1), (mixed, deep, 1, 1),
                                               (AROUND, other, 0, 0)):
            with self.assertRaises(Mixing) as caught:
                same_contents(first, second)
            self.assertEqual(vars(caught.exception), {"loop": loop, "statement": statement})

    def test_deep_and_its_order(self):
        deep = read_program(DEEP)
        later = read_program(DEEP.replace("i >= 2: f", "i >= 7: f") + " if i >= 8: aa[i] = e[i]\n")
        for first, second, n, cell in ((deep, later, 3, 2), (later, deep, 9, 8), (AROUND, deep, 3, 2), (deep, AROUND, 3, 2), (later, AROUND, 9, 8)):
            with self.assertRaises(Deep) as caught:
                same_contents(first, second)
            self.assertEqual(vars(caught.exception), {"n": n, "counter": cell})

    def test_never_too_large(self):
        large = read_program("for i from 0 below n:\n x[i] = x[i - 499]\n")
        self.assertIsNone(same_contents(large, large))
        self.assertEqual(same_contents(large, Program([])), (1, "x", 0))


class ForwardTest(unittest.TestCase):
    def test_examples(self):
        self.assertEqual(program_text(forward(AGAIN, (1, 0, 0), "x", Straight(1, 0, 0))),
                         "for i from 0 below n:\n    t[i] = x[i]\nfor i from 0 below n:\n    y[i] = 1 + x[i]\n")
        with self.assertRaises(NotSame) as caught:
            forward(AGAIN, (1, 0, 0), "x", Straight(1, 0, 1))
        self.assertEqual(vars(caught.exception), {"n": 1, "counter": 0})

    def test_reads_by_plain_logs(self):
        chance = random.Random(331)
        met = set()
        programs = [random_mover(chance, pure=k % 3 == 0) for k in range(40)] + random_programs(332, 15)
        for program in programs:
            for read in reads_in(program):
                for array, place in self.other_places(chance, program, read):
                    self.check_forward(program, read, array, place, met)
        self.assertTrue({"told", "unlike", "Deep", "other"} <= met, met)

    def other_places(self, chance, program, read):
        old = program.loops[read[0]].statements[read[1]].reads[read[2]]
        source = chance.choice(statements_in(program))
        there = program.loops[source[0]].statements[source[1]].reads
        told = [(old.array, old.place), (chance.choice(program.arrays), old.place)]
        told.extend((other.array, other.place) for other in there)
        return told

    def check_forward(self, program, read, array, place, met):
        loop, statement, number = read
        old = program.loops[loop].statements[statement].reads[number]
        plain = self.replaced(program, read, Read(array, place, factor=old.factor))
        unlike = []
        for n in SIZES:
            one, other = PlainPaths(program, n), PlainPaths(plain, n)
            works = sorted(work for work in one.log.works if (work[0], work[2]) == (loop, statement))
            unlike.extend((n, work[1]) for work in works if one.path_of(work, number)[1] != other.path_of(work, number)[1])
        try:
            told = forward(program, read, array, place)
        except NotSame as error:
            if unlike:
                self.assertEqual((error.n, error.counter), unlike[0], program_text(program))
            else:
                self.assertGreaterEqual(error.n, len(SIZES))
            met.add("unlike")
            return
        except Deep:
            met.add("Deep")
            return
        self.assertEqual(unlike, [], program_text(program))
        self.assertTrue(same_programs(told, plain))
        met.add("told" if same_programs(told, program) else "other")
        for n in (3, 7):
            one, other = PlainPaths(program, n), PlainPaths(told, n)
            for work in one.log.works:
                for k in range(len(one.takes[work])):
                    self.assertEqual(one.path_of(work, k)[1], other.path_of(work, k)[1])
            for cell in one.log.writes:
                self.assertEqual(one.path_of_cell(*cell)[1], other.path_of_cell(*cell)[1])
            self.assertIsNone(first_difference(run_program(program, n), run_program(told, n)))

    def replaced(self, program, read, made):
        text = program_text(program)
        told = read_program(text)
        told.loops[read[0]].statements[read[1]].reads = tuple(
            made if at == read[2] else old for at, old in enumerate(told.loops[read[0]].statements[read[1]].reads))
        return Program(told.loops)

    def test_kinds_of_places(self):
        first = read_program("for i from 0 below n:\n t[i] = x[0]\nfor i from 0 below n:\n y[i] = 1 - 2 * t[i] + t[0]\n")
        told = forward(first, (1, 0, 0), "x", 0)
        self.assertEqual(program_text(told).split("\n")[3], "    y[i] = 1 - 2 * x[0] + t[0]")
        read = [1, 0, 1]
        told = forward(first, read, "t", Place(Straight(1, 0, 0), 1))
        self.assertEqual(read, [1, 0, 1])
        self.assertEqual(program_text(told).split("\n")[3], "    y[i] = 1 - 2 * t[i] + t[i]")
        halves = read_program("for i from 0 below n:\n t[i] = x[i // 2]\nfor i from 0 below n by 2 down:\n if n >= 3: y[i] = 1 + t[i]\n")
        told = forward(program=halves, read=(1, 0, 0), array="x", place=Straight(1, 0, 0) // 2)
        self.assertEqual(program_text(told).split("\n")[2:4], ["for i from 0 below n by 2 down:", "    if n - 3 >= 0: y[i] = 1 + x[i // 2]"])
        self.assertEqual(told.arrays, ("t", "x", "y"))

    def test_arrays_that_the_program_does_not_have(self):
        for array, place in (("none", Straight(1, 0, 0)), ("x", Straight(0, 0, -1))):
            with self.assertRaises(NotSame) as caught:
                forward(AGAIN, (1, 0, 0), array, place)
            self.assertEqual(vars(caught.exception), {"n": 1, "counter": 0})
        never = read_program("for i from 5 below 5:\n y[i] = 1 + t[i]\n")
        self.assertEqual(forward(never, (0, 0, 0), "none", 7).arrays, ("none", "y"))

    def test_errors_of_reads(self):
        deep = read_program(DEEP + " z[i] = 1 + f[i]\n")
        for array in ("", "for", "abcdefghi", "A", "a1", "i"):
            with self.assertRaises(BadName) as caught:
                forward(deep, (0, 5, 0), array, Straight(99, 0, 0))
            self.assertEqual(caught.exception.name, array)
        for place, what, number in ((Straight(13, 13, 9999), "i", 13), (Straight(1, -13, 0), "n", -13), (Straight(1, 0, 1000), "one", 1000),
                                    (Place(Straight(1, 0, 0), 4), "divisor", 4)):
            with self.assertRaises(BadNumber) as caught:
                forward(deep, (0, 5, 0), "none", place)
            self.assertEqual(vars(caught.exception), {"what": what, "number": number})
        for read, error in (((1, 0, 0), NoLoop), ((0, 9, 0), NoStatement), ((0, 5, 1), NoRead), (("0", None, None), NoLoop)):
            with self.assertRaises(error):
                forward(deep, read, "", 0)

    def test_deep_old_and_new_reads(self):
        program = read_program(DEEP + " if i >= 2: z[i] = 1 + f[i]\n if i >= 1: z[i] = 1 + e[i]\n if i >= 7: z[i] = 1 + b[i - 7]\n")
        for read, array, n, j in (((0, 5, 0), "f", 3, 2), ((0, 5, 0), "none", 3, 2), ((0, 6, 0), "f", 3, 2), ((0, 7, 0), "f", 8, 7)):
            with self.assertRaises(Deep) as caught:
                forward(program, read, array, Straight(1, 0, 0))
            self.assertEqual(vars(caught.exception), {"n": n, "counter": j})
        self.assertEqual(or_error(forward, program, (0, 6, 0), "a", Straight(1, 0, 0)).arrays, ("a", "b", "c", "d", "e", "f", "z"))

    def test_great_differences(self):
        late = read_program("for i from 0 below n:\n t[i] = x[i]\n if i >= 950: t[i] = x[i - 1]\n y[i] = 1 + t[i]\n")
        with self.assertRaises(NotSame) as caught:
            forward(late, (0, 2, 0), "x", Straight(1, 0, 0))
        self.assertEqual(vars(caught.exception), {"n": 951, "counter": 950})


class DropTest(unittest.TestCase):
    def test_examples(self):
        with self.assertRaises(Taken) as caught:
            drop(AGAIN, 0, 0)
        self.assertEqual(vars(caught.exception), {"n": 1, "counter": 0})

    def test_statements_by_plain_logs(self):
        met = set()
        chance = random.Random(341)
        for program in random_programs(341, 80, arrays="xy", most_statements=4) + [random_mover(chance) for _ in range(40)]:
            for loop, statement in statements_in(program):
                busy = []
                for n in SIZES:
                    log = log_program(program, n)
                    taken = {source for takes in log.takes for _, _, source in takes}
                    for work, cell in sorted(zip(log.works, log.writes)):
                        if (work[0], work[2]) == (loop, statement) and (work in taken or log.last_writer(*cell) == work):
                            busy.append((n, work[1]))
                try:
                    told = drop(program, loop, statement)
                except Taken as error:
                    if busy:
                        self.assertEqual((error.n, error.counter), busy[0], program_text(program))
                    else:
                        self.assertGreaterEqual(error.n, len(SIZES))
                    met.add("taken")
                    continue
                self.assertEqual(busy, [], program_text(program))
                met.add("dropped")
                self.check_dropped(program, told, loop, statement)
        self.assertEqual(met, {"taken", "dropped"})

    def check_dropped(self, program, told, loop, statement):
        plain = read_program(program_text(program))
        kept = plain.loops[loop].statements
        plain.loops[loop].statements = kept[:statement] + kept[statement + 1:]
        self.assertTrue(same_programs(told, Program(plain.loops)))
        for n in (2, 6):
            self.assertIsNone(first_difference(run_program(program, n), run_program(told, n)))

    def test_the_only_statement_of_a_loop(self):
        lost = read_program("for i from 0 below n by 2 down:\n x[i] = 1\nfor i from 0 below n:\n x[i] = 2\n")
        told = drop(lost, 0, 0)
        self.assertEqual(program_text(told), "for i from 0 below n by 2 down:\nfor i from 0 below n:\n    x[i] = 2\n")
        self.assertEqual(told.loops[0].statements, ())
        never = read_program("for i from 5 below 5:\n x[i] = 1\n")
        self.assertEqual([drop(never, 0, 0).arrays, len(drop(program=never, loop=0, statement=0).loops)], [(), 1])

    def test_works_that_are_taken_late(self):
        late = read_program("for i from 0 below n:\n x[i] = 1\nfor i from 0 below n:\n if i >= 900: y[i] = x[i - 3]\nfor i from 0 below n:\n x[i] = 2\n")
        with self.assertRaises(Taken) as caught:
            drop(late, 0, 0)
        self.assertEqual(vars(caught.exception), {"n": 901, "counter": 897})
        self.assertEqual(or_error(idle, late, (0, 0)) == "TooLarge", False)

    def test_errors(self):
        for value in (2, -1, True, None, "0", 0.0, (0,), []):
            with self.assertRaises(NoLoop) as caught:
                drop(AGAIN, value, 9)
            self.assertIs(caught.exception.loop, value)
            with self.assertRaises(NoStatement) as caught:
                drop(AGAIN, 0, value)
            self.assertEqual((caught.exception.loop, caught.exception.statement), (0, value))
        self.assertTrue(all(is_plain_copy(AROUND, work) for work in ((0, 0, 0), (1, 0, 0))))
        self.assertTrue(issubclass(Taken, LoopError))


if __name__ == "__main__":
    unittest.main()
