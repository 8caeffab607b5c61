"""[61]: two arrays in one."""

import random
import unittest

from loopsize.errors import BadNumber, NoArray, NotKept, SameArray
from loopsize.programs import Loop, Program, Read, Statement
from loopsize.runs import input_value, log_program, run_program
from loopsize.sharing import share_fails, share_is_right, share_least
from loopsize.straights import Place, Straight
from loopsize.texts import program_text, read_program
from tests.samples import or_error, random_condition, statement_of
from tests.test_folding import first_not_kept
from tests.test_spaces import NONE

BIG = 10 ** 30
SIZES = range(7)
BOTH = read_program("for i from 0 below n:\n  x[i] = a[i]\n  y[i] = a[i] + 1\n  b[i] = x[i] + y[i]")
# x is wanted behind all writes of y: y may lie behind x alone, or ahead of it, which no shift from 0 on does.
LONG = read_program("for i from 0 below n:\n x[i] = a[i]\nfor i from 0 below n:\n y[i] = a[i]\nfor i from 0 below n:\n b[i] = x[i] + y[i]\n")
# Cells of x from 3 on, of y from 0 on, in one turn each.
AHEAD = read_program("for i from 0 below n:\n x[i + 40] = a[i]\n y[i] = a[i]\n b[i] = x[i + 40] + y[i]\n")
BEHIND = read_program("for i from 0 below n:\n x[i] = a[i]\n b[i] = x[i]\nfor i from 0 below n:\n y[i] = a[i]\n b[i] = y[i]\n")
MIXED = read_program("for i from 0 below n:\n x[i] = a[i]\n y[i] = u[i]\n b[i] = x[i] + y[i] + u[i]\n")


def random_shared(chance):
    """A program whose arrays x and y are often kept between."""
    loops = []
    many = Straight(0, chance.choice([1, 2]), 6)
    for array in ("x", "y"):
        first = Statement(array, Straight(chance.choice([1, 1, 2]), 0, chance.choice([0, -2, 3])), 1, reads=[Read("a", 0)])
        loops.append(Loop(0, many, [first], down=chance.random() < 0.3))
    if chance.random() < 0.5:
        loops = [Loop(0, many, [loop.statements[0] for loop in loops])]
    for _ in range(chance.randint(1, 2)):
        statements = []
        for _ in range(chance.randint(1, 3)):
            place = Place(Straight(chance.choice([1, 1, 2, 0]), chance.choice([0, 0, 1]), chance.randint(-1, 3)), chance.choice([1, 1, 2]))
            conditions = [random_condition(chance) for _ in range(chance.choice([0, 0, 1]))]
            reads = [Read(chance.choice("xy"), place)]
            statements.append(Statement(chance.choice("xyb"), Straight(1, 0, chance.randint(0, 3)), 1, reads=reads, conditions=conditions))
        loops.append(Loop(0, Straight(0, 1, 0), statements, down=chance.random() < 0.3))
    return Program(loops)


def shared_programs(seed, many):
    chance = random.Random(seed)
    told = [BOTH, LONG, AHEAD, BEHIND]
    while len(told) < many:
        program = random_shared(chance)
        if or_error(share_least, program, "x", "y") not in ("NotKept", "NoArray"):
            told.append(program)
    return told


def plain_wrong(program, n, x, y):
    """For each shift that is wrong at a size the tuples (n, r, read, w, v); also shifts below 0."""
    log = log_program(program, n)
    place = {work: at for at, work in enumerate(log.works)}
    told = {}
    for at, work in enumerate(log.works):
        for read, (name, cell, source) in enumerate(log.takes[at]):
            if name in (x, y):
                for k in range(place[source] + 1, at):
                    other, there = log.writes[k]
                    if {name, other} == {x, y}:
                        shift = cell - there if name == x else there - cell
                        told.setdefault(shift, []).append((n, work, read, source, log.works[k]))
    return told


def shared_sources(program, n, x, y, shift):
    """From which works the reads of both arrays take if they share one."""
    held = {}
    told = []
    for work in log_program(program, n).works:
        statement = statement_of(program, work)
        for read in statement.reads:
            if read.array in (x, y):
                told.append(held.get(read.place(work[1], n) + (shift if read.array == y else 0)))
        if statement.array in (x, y):
            held[statement.cell(work[1], n) + (shift if statement.array == y else 0)] = work
    return told


class SharingTest(unittest.TestCase):
    def test_example(self):
        self.assertEqual([share_least(BOTH, "x", "y"), share_is_right(BOTH, "x", "y", BIG), share_fails(BOTH, "x", "y", 0)],
                         [1, True, (1, (0, 0, 2), 0, (0, 0, 0), (0, 0, 1))])

    def test_shifts_by_plain_logs(self):
        met = set()
        for program in shared_programs(251, 22):
            for x, y in (("x", "y"), ("y", "x")):
                plain = {n: plain_wrong(program, n, x, y) for n in SIZES}
                for shift in (*range(8), 40):
                    told = share_fails(program, x, y, shift)
                    self.assertIs(share_is_right(program, x, y, shift), told is None)
                    failing = [n for n in SIZES if shift in plain[n]]
                    if failing:
                        self.assertIn(told, plain[failing[0]][shift], program_text(program))
                    elif told is not None:
                        self.assertGreaterEqual(told[0], len(SIZES))
                        if told[0] < 60:
                            self.assertIn(told, plain_wrong(program, told[0], x, y)[shift])
                    met.add(told is None)
        self.assertEqual(met, {False, True})

    def test_least_shifts(self):
        met = set()
        for program in shared_programs(252, 24):
            for x, y in (("x", "y"), ("y", "x")):
                told = share_least(program, x, y)
                met.add(told)
                if told is None:
                    self.assertFalse(any(share_is_right(program, x, y, shift) for shift in (*range(20), BIG)))
                else:
                    right = [shift for shift in range(told + 1) if share_is_right(program, x, y, shift)]
                    self.assertEqual(right, [told], program_text(program))
        self.assertTrue({None, 0, 1} <= met, met)

    def test_what_right_shifts_are_for(self):
        for program in shared_programs(253, 30):
            for n in (2, 5):
                log = log_program(program, n)
                sources = [source for taken in log.takes for name, _, source in taken if name in ("x", "y")]
                for shift in (0, 1, 2, 5):
                    wrong = shift in plain_wrong(program, n, "x", "y")
                    self.assertIs(shared_sources(program, n, "x", "y", shift) == sources, not wrong)
                    if share_is_right(program, "x", "y", shift):
                        self.assertEqual(shared_sources(program, n, "x", "y", shift), sources)

    def test_arrays_by_hand(self):
        # The cells of y at c + s lie where x is wanted at all sizes, whatever s is; the other way round likewise.
        self.assertEqual([share_least(LONG, "x", "y"), share_least(LONG, "y", "x")], [None, None])
        self.assertEqual([share_is_right(LONG, "x", "y", shift) for shift in (0, 1, 10 ** 6, BIG)], [False] * 4)
        for shift in (0, 3, BIG):
            n, r, read, w, v = share_fails(LONG, "x", "y", shift)
            # The last cell of x is the place of the first one of y.
            self.assertEqual((n, r, read, w, v), (shift + 1, (2, shift, 0), 0, (0, shift, 0), (1, 0, 0)))
        # From x[i + 40] on: y may not lie at the same place, 40 behind, and is free at each other one.
        self.assertEqual([share_is_right(AHEAD, "x", "y", shift) for shift in (0, 39, 40, 41, BIG)], [True, True, False, True, True])
        self.assertEqual([share_least(AHEAD, "x", "y"), share_least(AHEAD, "y", "x")], [0, 0])
        self.assertEqual(share_fails(AHEAD, "x", "y", 40), (1, (0, 0, 2), 0, (0, 0, 0), (0, 0, 1)))
        self.assertEqual([share_least(BEHIND, "x", "y"), share_fails(BEHIND, "x", "y", 7)], [0, None])
        late = read_program("for i from 0 below n:\n x[i] = a[i]\n if i >= 700: y[i - 3] = a[i]\n if i >= 700: b[i] = x[i] + y[i - 3]\n")
        self.assertEqual([share_least(late, "x", "y"), share_fails(late, "x", "y", 3), share_fails(late, "x", "y", 2)],
                         [0, (701, (0, 700, 2), 0, (0, 700, 0), (0, 700, 1)), None])

    def test_arrays_that_are_not_read(self):
        none = read_program("for i from 0 below n:\n x[i] = a[i]\n y[i] = a[i]\n")
        self.assertEqual([share_least(none, "x", "y"), share_is_right(none, "x", "y", 0), share_fails(none, "x", "y", BIG)], [0, True, None])
        one = read_program("for i from 0 below n:\n x[2 * i] = a[i]\n y[i] = a[i]\n y[i + 1] = 1\n b[i] = x[2 * i]\n")
        # Wrong are the differences 2 i - i and 2 i - i - 1.
        self.assertIsNone(share_least(one, "x", "y"))
        self.assertEqual(share_least(one, "y", "x"), 2)

    def test_errors_and_their_order(self):
        def calls(x, y):
            return (lambda: share_least(MIXED, x, y), lambda: share_is_right(MIXED, x, y, -1), lambda: share_fails(MIXED, x, y, None))
        for value in ("", "c", "xx", None, 0, True, 1.0, ("x",), ["x"], {}):
            for call in calls(value, "none") + calls(value, "u") + calls(value, value):
                with self.assertRaises(NoArray) as caught:
                    call()
                self.assertIs(caught.exception.array, value)
            for call in calls("u", value) + calls("x", value):
                with self.assertRaises(NoArray) as caught:
                    call()
                self.assertIs(caught.exception.array, value)
        for x, y, work, read in (("a", "u", (0, 0, 0), 0), ("u", "a", (0, 0, 1), 0), ("u", "u", (0, 0, 1), 0), ("a", "a", (0, 0, 0), 0),
                                 ("x", "u", (0, 0, 1), 0), ("u", "x", (0, 0, 1), 0)):
            for call in calls(x, y):
                with self.assertRaises(NotKept) as caught:
                    call()
                self.assertEqual(vars(caught.exception), {"n": 1, "work": work, "read": read})
        for x in ("x", "b"):
            for call in calls(x, x):
                with self.assertRaises(SameArray) as caught:
                    call()
                self.assertEqual(caught.exception.array, x)
        for value in (-1, True, False, None, "1", 2.0, (2,), [], *NONE[2:]):
            for function in (share_is_right, share_fails):
                with self.assertRaises(BadNumber) as caught:
                    function(BOTH, "x", "y", value)
                self.assertEqual(caught.exception.what, "shift")
                self.assertIs(caught.exception.number, value)
        self.assertEqual([share_least(program=BOTH, x="x", y="y"), share_is_right(program=BOTH, x="x", y="y", shift=0),
                          share_fails(program=BOTH, x="x", y="y", shift=1)], [1, False, None])

    def test_what_comes_first_of_arrays_that_are_not_kept(self):
        many = 0
        chance = random.Random(254)
        for _ in range(40):
            program = random_shared(chance)
            if "x" in program.arrays and "y" in program.arrays:
                found = first_not_kept(program, "x", range(6)) or first_not_kept(program, "y", range(6))
                if found is not None and or_error(share_least, program, "x", "x") in ("NotKept", "SameArray"):
                    with self.assertRaises(NotKept) as caught:
                        share_least(program, "x", "y")
                    if first_not_kept(program, "x", range(6)) is not None or or_error(share_least, program, "x", "x") == "SameArray":
                        self.assertEqual((caught.exception.n, caught.exception.work, caught.exception.read), found)
                        many += 1
        self.assertGreater(many, 3)

    def test_runs_with_one_array_for_both_leave_the_same(self):
        for program in shared_programs(255, 20):
            shift = share_least(program, "x", "y")
            if shift is not None:
                run = run_program(program, 6)
                held = {}
                for work in log_program(program, 6).works:
                    statement = statement_of(program, work)
                    value = statement.constant
                    for read in statement.reads:
                        key = self.placed(read.array, read.place(work[1], 6), shift)
                        value += read.factor * held.get(key, input_value(*key))
                    held[self.placed(statement.array, statement.cell(work[1], 6), shift)] = value % 1000003
                for (array, cell), value in held.items():
                    if array not in ("x", "y"):
                        self.assertEqual(run.value_of(array, cell), value, program_text(program))

    def placed(self, array, cell, shift):
        return ("x", cell + shift) if array == "y" else (array, cell)


if __name__ == "__main__":
    unittest.main()
