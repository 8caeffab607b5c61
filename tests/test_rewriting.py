"""[47] to [50]: rewritings, what they are made of and what stands for what."""

import unittest

from loopsize.conditions import AtLeast, Rest
from loopsize.errors import BadMany, BadNumber, BadSize, NoLoop, NoStatement, OtherProgram, TooMany, Unlike
from loopsize.programs import Loop, Program, Read, Statement, same_programs
from loopsize.rewriting import Rewriting, cut_loop, deal_loop, join_loops, no_rewriting, split_loop, swap_loops
from loopsize.rewriting import swap_statements, turn_loop, unroll_loop
from loopsize.runs import works_of
from loopsize.straights import Place, Straight
from loopsize.texts import program_text, read_place, read_program
from tests.samples import random_programs, statements_in
from tests.test_runs import BAD_SIZES
from tests.test_spaces import NONE

BIG = 10 ** 30
I = Straight(1, 0, 0)
N = Straight(0, 1, 0)
THREE = read_program(
    "for i from 0 below n:\n a[i] = b[i]\n a[i + 1] = 2\n"
    "for i from 1 below 2 * n by 3 down:\n if i >= 2: c[i] = a[i - 1] + 3 * b[(i + 1) // 2]\n if i mod 2 == 1: b[2 * i] = 4\n"
    " b[0] = 5\n"
    "for i from n below 3 * n by 3 down:\n d[n - i] = c[i]\n"
)
HEADS = ("for i from 0 below n:\n", "for i from 1 below 2 * n by 3 down:\n", "for i from n below 3 * n by 3 down:\n")
BODIES = (
    ("    a[i] = b[i]\n", "    a[i + 1] = 2\n"),
    ("    if i - 2 >= 0: c[i] = a[i - 1] + 3 * b[(i + 1) // 2]\n", "    if i mod 2 == 1: b[2 * i] = 4\n", "    b[0] = 5\n"),
    ("    d[-i + n] = c[i]\n",),
)
LOOPS = tuple(head + "".join(body) for head, body in zip(HEADS, BODIES))


def text_after(rewriting):
    return program_text(rewriting.after)


class MadeTest(unittest.TestCase):
    def test_swap_loops(self):
        told = swap_loops(THREE, 0)
        self.assertEqual(text_after(told), LOOPS[1] + LOOPS[0] + LOOPS[2])
        self.assertEqual(told.origins, (((1, 0, 0), (1, 1, 0), (1, 2, 0)), ((0, 0, 0), (0, 1, 0)), ((2, 0, 0),)))
        self.assertEqual(text_after(swap_loops(THREE, 1)), LOOPS[0] + LOOPS[2] + LOOPS[1])
        self.assertIs(told.before, THREE)

    def test_swap_statements(self):
        told = swap_statements(THREE, 1, 1)
        body = BODIES[1]
        self.assertEqual(text_after(told), LOOPS[0] + HEADS[1] + body[0] + body[2] + body[1] + LOOPS[2])
        self.assertEqual(told.origins, (((0, 0, 0), (0, 1, 0)), ((1, 0, 0), (1, 2, 0), (1, 1, 0)), ((2, 0, 0),)))

    def test_turn_loop(self):
        self.assertEqual(text_after(turn_loop(THREE, 0)), LOOPS[0].replace("n:", "n down:") + LOOPS[1] + LOOPS[2])
        self.assertEqual(text_after(turn_loop(THREE, 1)), LOOPS[0] + LOOPS[1].replace(" down:", ":") + LOOPS[2])
        self.assertEqual(turn_loop(THREE, 1).origins, no_rewriting(THREE).origins)

    def test_join_loops(self):
        told = join_loops(THREE, 1)
        self.assertEqual(text_after(told), LOOPS[0] + LOOPS[1] + BODIES[2][0])
        self.assertEqual(told.origins, (((0, 0, 0), (0, 1, 0)), ((1, 0, 0), (1, 1, 0), (1, 2, 0), (2, 0, 0))))

    def test_split_loop(self):
        told = split_loop(THREE, 1, 1)
        self.assertEqual(text_after(told), LOOPS[0] + HEADS[1] + BODIES[1][0] + HEADS[1] + BODIES[1][1] + BODIES[1][2] + LOOPS[2])
        self.assertEqual(told.origins, (((0, 0, 0), (0, 1, 0)), ((1, 0, 0),), ((1, 1, 0), (1, 2, 0)), ((2, 0, 0),)))

    def test_cut_loop(self):
        body = "".join(BODIES[0])
        told = cut_loop(THREE, 0, read_place("(n + 1) // 2"))
        self.assertEqual(text_after(told), "for i from 0 below (n + 1) // 2:\n" + body + "for i from (n + 1) // 2 below n:\n"
                         + body + LOOPS[1] + LOOPS[2])
        self.assertEqual(told.origins[:2], (((0, 0, 0), (0, 1, 0)), ((0, 0, 0), (0, 1, 0))))
        down = cut_loop(THREE, 2, N + 5)
        self.assertEqual(text_after(down), LOOPS[0] + LOOPS[1] + "for i from n + 5 below 3 * n by 3 down:\n" + BODIES[2][0]
                         + "for i from n below n + 5 by 3 down:\n" + BODIES[2][0])
        self.assertEqual(down.origins[2:], (((2, 0, 0),), ((2, 0, 0),)))
        self.assertEqual(text_after(cut_loop(THREE, 0, 7))[:21], "for i from 0 below 7:")

    def test_deal_loop(self):
        told = deal_loop(THREE, 1, 2)
        parts = []
        for rest in range(2):
            parts.append(HEADS[1] + f"    if i mod 2 == {rest} and i - 2 >= 0: c[i] = a[i - 1] + 3 * b[(i + 1) // 2]\n"
                         f"    if i mod 2 == {rest} and i mod 2 == 1: b[2 * i] = 4\n    if i mod 2 == {rest}: b[0] = 5\n")
        self.assertEqual(text_after(told), LOOPS[0] + "".join(parts) + LOOPS[2])
        self.assertEqual(told.origins[1], told.origins[2])
        self.assertEqual(len(deal_loop(THREE, 2, 4).after.loops), 6)

    def test_unroll_loop(self):
        told = unroll_loop(THREE, 0, 2)
        self.assertEqual(text_after(told), "for i from 0 below n by 2:\n    a[i] = b[i]\n    a[i + 1] = 2\n    a[i + 1] = b[i + 1]\n"
                         "    a[i + 2] = 2\n" + LOOPS[1] + LOOPS[2])
        self.assertEqual(told.origins[0], ((0, 0, 0), (0, 1, 0), (0, 0, 1), (0, 1, 1)))
        down = unroll_loop(THREE, 1, 3)
        self.assertEqual(down.origins[1], tuple((1, number, shift) for shift in (6, 3, 0) for number in range(3)))
        self.assertEqual(text_after(down).split("\n")[3:8],
                         ["for i from 1 below 2 * n by 9 down:",
                          "    if i + 4 >= 0: c[i + 6] = a[i + 5] + 3 * b[(i + 7) // 2]", "    if i mod 2 == 1: b[2 * i + 12] = 4",
                          "    b[0] = 5", "    if i + 1 >= 0: c[i + 3] = a[i + 2] + 3 * b[(i + 4) // 2]"])

    def test_no_rewriting(self):
        told = no_rewriting(THREE)
        self.assertTrue(same_programs(told.after, THREE))
        self.assertEqual(told.origins, (((0, 0, 0), (0, 1, 0)), ((1, 0, 0), (1, 1, 0), (1, 2, 0)), ((2, 0, 0),)))
        self.assertEqual(no_rewriting(read_program("")).origins, ())
        self.assertEqual(no_rewriting(read_program("for i from 0 below n:\n")).origins, ((),))

    def test_the_first_program_is_not_changed(self):
        before = program_text(THREE)
        for rewriting in (swap_loops(THREE, 0), swap_statements(THREE, 0, 0), unroll_loop(THREE, 0, 3), deal_loop(THREE, 0, 3)):
            self.assertEqual(program_text(rewriting.before), before)
        self.assertEqual(program_text(THREE), before)

    def test_what_is_done_stays_the_same(self):
        for program in random_programs(81, 25):
            for rewriting in some_rewritings(program):
                for loop, statement in statements_in(rewriting.after):
                    first, number, shift = rewriting.origins[loop][statement]
                    one = rewriting.after.loops[loop].statements[statement]
                    other = program.loops[first].statements[number]
                    for i in range(5):
                        self.assertEqual(one.cell(i, 7), other.cell(i + shift, 7))
                        self.assertEqual([(read.array, read.place(i, 7), read.factor) for read in one.reads],
                                         [(read.array, read.place(i + shift, 7), read.factor) for read in other.reads])
                    self.assertEqual((one.array, one.constant), (other.array, other.constant))


def some_rewritings(program):
    """Rewritings of all kinds that can be made of a program, of its first, a middle and its last loop."""
    told = []
    for loop in range(len(program.loops)):
        makes = [(turn_loop, ()), (deal_loop, (2,)), (deal_loop, (3,)), (unroll_loop, (2,)), (unroll_loop, (3,)), (swap_loops, ()),
                 (join_loops, ()), (swap_statements, (0,)), (swap_statements, (1,)), (split_loop, (1,)),
                 (cut_loop, (Place(N, 2),)), (cut_loop, (N - 1,)), (cut_loop, (2,)), (cut_loop, (N + 1,))]
        for make, more in makes:
            try:
                told.append(make(program, loop, *more))
            except (NoLoop, NoStatement, Unlike, TooMany, BadNumber):
                continue
    return told


class ErrorsTest(unittest.TestCase):
    def raised(self, wanted, fields, make, *arguments):
        with self.assertRaises(wanted) as caught:
            make(*arguments)
        self.assertEqual(tuple(vars(caught.exception).values()), fields)

    def test_loops_and_statements_that_are_none(self):
        for value in (-1, 3, *NONE[2:]):
            for make, more in ((swap_loops, ()), (swap_statements, ("x",)), (turn_loop, ()), (join_loops, ()),
                               (split_loop, ("x",)), (cut_loop, (I,)), (deal_loop, (99,)), (unroll_loop, (99,))):
                self.raised(NoLoop, (value,), make, THREE, value, *more)
            for make in (swap_statements, split_loop):
                self.raised(NoStatement, (1, value), make, THREE, 1, value)
        self.raised(NoLoop, (2,), swap_loops, THREE, 2)
        self.raised(NoLoop, (2,), join_loops, THREE, 2)
        self.raised(NoStatement, (1, 2), swap_statements, THREE, 1, 2)
        self.raised(NoStatement, (2, 0), swap_statements, THREE, 2, 0)
        self.raised(NoStatement, (1, 0), split_loop, THREE, 1, 0)

    def test_numbers_of_parts(self):
        for value in (0, 1, 5, -2, True, None, "2", 2.0, (2,), [2]):
            self.raised(BadMany, (value,), deal_loop, THREE, 0, value)
        for value in (0, 1, 17, -2, True, None, "2", 2.0, (2,), [2]):
            self.raised(BadMany, (value,), unroll_loop, THREE, 0, value)
        self.raised(BadMany, (0,), deal_loop, read_program("for i from 0 below n:\n" * 6), 0, 0)

    def test_unlike_loops(self):
        for other in ("for i from 0 below n by 2:\n", "for i from 0 below n down:\n"):
            self.raised(Unlike, (0,), join_loops, read_program("for i from 0 below n:\n x[i] = 1\n" + other), 0)
        full = read_program("for i from 0 below n:\n" + " x[i] = 1\n" * 10 + "for i from 0 below n by 2:\n" + " x[i] = 1\n" * 10)
        self.raised(Unlike, (0,), join_loops, full, 0)
        self.assertEqual(len(join_loops(read_program("for i from 0 below n:\nfor i from 3 below 5:\n"), 0).after.loops), 1)

    def test_too_many_loops(self):
        six = read_program("for i from 0 below n:\n x[i] = 1\n y[i] = 1\n" * 6)
        for make, more in ((split_loop, (1,)), (cut_loop, (N,)), (deal_loop, (2,))):
            self.raised(TooMany, ("loops", 7, 6), make, six, 5, *more)
        self.raised(TooMany, ("loops", 9, 6), deal_loop, six, 0, 4)

    def test_too_many_statements_and_conditions(self):
        nine = read_program("for i from 0 below n:\n" + " x[i] = 1\n" * 9 + "for i from 0 below n:\n" + " x[i] = 1\n" * 8)
        self.raised(TooMany, ("statements", 17, 16), join_loops, nine, 0)
        self.raised(TooMany, ("statements", 18, 16), unroll_loop, nine, 0, 2)
        self.assertEqual(len(unroll_loop(nine, 1, 2).after.loops[1].statements), 16)
        three = read_program("for i from 0 below n:\n if i >= 1 and n >= 2: x[i] = 1\n if i >= 1 and n >= 2 and i >= 3: x[i] = 1\n")
        self.raised(TooMany, ("conditions", 4, 3), deal_loop, three, 0, 2)
        two = read_program("for i from 0 below n:\n if i >= 1 and n >= 2: x[i] = 1\n")
        self.assertEqual(len(deal_loop(two, 0, 3).after.loops[2].statements[0].conditions), 3)

    def test_bounds_of_numbers(self):
        one = Statement("x", I * 12 + 990, 0)
        step = Program([Loop(0, N, [one])])
        self.raised(BadNumber, ("one", 1002), unroll_loop, step, 0, 2)
        self.raised(BadNumber, ("step", 18), unroll_loop, Program([Loop(0, N, [], step=9)]), 0, 2)
        read = Program([Loop(0, N, [Statement("x", I * 12 + 990, 0, reads=[Read("x", Place(I * 11 + 995, 3))])])])
        self.raised(BadNumber, ("one", 1006), unroll_loop, read, 0, 2)
        check = Program([Loop(0, N, [Statement("x", I, 0, conditions=[AtLeast(I * 7 - N * 3 - 999 + 1997)])], down=True)])
        self.raised(BadNumber, ("one", 998 + 21), unroll_loop, check, 0, 4)
        self.raised(BadNumber, ("one", 998 + 7), unroll_loop, turn_loop(check, 0).after, 0, 4)

    def test_places_of_cuts(self):
        self.raised(BadNumber, ("i", 1), cut_loop, THREE, 0, I)
        self.raised(BadNumber, ("i", 2), cut_loop, THREE, 0, Place(2 * I + N, 3))
        self.raised(BadNumber, ("n", 4), cut_loop, THREE, 0, 4 * N)
        self.raised(BadNumber, ("n", -1), cut_loop, THREE, 0, Place(-N, 2))
        self.raised(BadNumber, ("one", 1000), cut_loop, THREE, 0, 1000)
        self.raised(BadNumber, ("divisor", 4), cut_loop, THREE, 0, Place(N, 4))
        self.raised(BadNumber, ("step", 3), cut_loop, THREE, 1, Place(N, 2))
        self.assertTrue(cut_loop(THREE, 1, Place(2 * N, 2)).after.loops[1].low == Place(N, 1))

    def test_the_part_that_is_made_first_counts(self):
        both = Program([Loop(0, N, [Statement("x", 12 * I + 995, 0)] * 9, step=9)])
        self.raised(BadNumber, ("one", 1103), unroll_loop, both, 0, 2)
        both = Program([Loop(0, N, [Statement("x", I, 0)] * 9, step=9)])
        self.raised(TooMany, ("statements", 18, 16), unroll_loop, both, 0, 2)
        both = Program([Loop(0, N, [Statement("x", I, 0)], step=2)] * 6)
        self.raised(BadNumber, ("step", 2), cut_loop, both, 3, Place(N, 2))
        self.raised(TooMany, ("loops", 7, 6), cut_loop, both, 3, N)
        reads = [Read("x", I + 998), Read("x", I + 999)]
        order = Program([Loop(0, N, [Statement("x", I + 999, 0, reads=reads)])])
        self.raised(BadNumber, ("one", 1000), unroll_loop, order, 0, 2)
        self.raised(BadNumber, ("one", 1001), unroll_loop, turn_loop(order, 0).after, 0, 4)


class RewritingTest(unittest.TestCase):
    def test_origin_of_any_tuple(self):
        told = unroll_loop(THREE, 1, 3)
        self.assertEqual([told.origin((1, 5, 0)), told.origin((1, -BIG, 5)), told.origin([2, BIG, 0])],
                         [(1, 11, 0), (1, 3 - BIG, 2), (2, BIG, 0)])
        for value in NONE:
            with self.assertRaises(NoLoop) as caught:
                told.origin((value, 0, "x"))
            self.assertIs(caught.exception.loop, value)
            with self.assertRaises(NoStatement) as caught:
                told.origin((0, 0, value))
            self.assertIs(caught.exception.statement, value)
        self.assertEqual(told.origin((1, 0, 8)), (1, 0, 2))
        with self.assertRaises(NoStatement):
            told.origin((1, 0, 9))

    def test_places_by_plain_works(self):
        for program in random_programs(82, 20):
            for rewriting in some_rewritings(program):
                for n in (0, 1, 4, 5):
                    works = works_of(rewriting.after, n)
                    stood = {}
                    for work in works:
                        stood.setdefault(rewriting.origin(work), []).append(work)
                    for loop, statement in statements_in(program):
                        for counter in range(-2, 14):
                            work = (loop, counter, statement)
                            told = rewriting.places(n, work)
                            self.assertIsInstance(told, list)
                            self.assertEqual(told, stood.get(work, []), program_text(program))

    def test_places_of_works_that_stand_often(self):
        one = read_program("for i from 0 below n down:\n x[i] = 1\n")
        both = cut_loop(one, 0, read_place("2 * n"))
        twice = both.then(cut_loop(both.after, 1, 0))
        self.assertEqual(twice.places(5, (0, 3, 0)), [(1, 3, 0)])
        over = cut_loop(one, 0, N - 3).then(no_rewriting(cut_loop(one, 0, N - 3).after))
        self.assertEqual(over.places(BIG, (0, BIG - 2, 0)), [(0, BIG - 2, 0)])
        many = unroll_loop(one, 0, 3)
        self.assertEqual(many.places(BIG, (0, BIG + 1, 0)), [(0, BIG - 1, 0)])
        self.assertEqual(many.places(BIG, (0, BIG + 2, 0)), [])

    def test_errors_of_places(self):
        told = swap_loops(THREE, 1)
        for value in NONE:
            with self.assertRaises(NoLoop) as caught:
                told.places("n", (value, 0, 0))
            self.assertIs(caught.exception.loop, value)
            with self.assertRaises(NoStatement) as caught:
                told.places("n", (2, 0, value))
            self.assertEqual(caught.exception.loop, 2)
        with self.assertRaises(NoStatement):
            told.places(5, (2, 0, 1))
        self.assertEqual(told.places(5, [1, 4, 2]), [(2, 4, 2)])
        for value in BAD_SIZES:
            with self.assertRaises(BadSize) as caught:
                told.places(value, (0, 0, 0))
            self.assertIs(caught.exception.n, value)

    def test_one_behind_the_other(self):
        first = unroll_loop(THREE, 0, 2)
        second = swap_loops(first.after, 0)
        third = unroll_loop(second.after, 1, 3)
        told = first.then(second).then(third)
        self.assertIsInstance(told, Rewriting)
        self.assertIs(told.before, THREE)
        self.assertIs(told.after, third.after)
        self.assertEqual(told.origins[1], tuple((0, number, shift) for shift in range(6) for number in range(2)))
        self.assertEqual(told.origins[0], ((1, 0, 0), (1, 1, 0), (1, 2, 0)))
        self.assertEqual(first.then(second.then(third)).origins, told.origins)
        for work in ((0, 3, 1), (1, 7, 11), (2, 0, 0)):
            self.assertEqual(told.origin(work), first.origin(second.origin(third.origin(work))))
        same = first.then(no_rewriting(read_program(program_text(first.after))))
        self.assertEqual(same.origins, first.origins)

    def test_other_programs(self):
        with self.assertRaises(OtherProgram):
            swap_loops(THREE, 0).then(swap_loops(THREE, 0))
        with self.assertRaises(OtherProgram):
            no_rewriting(read_program("")).then(no_rewriting(read_program("for i from 0 below n:\n")))

    def test_example(self):
        two = read_program("for i from 0 below n:\n a[i] = 1 + 2 * b[i]\nfor i from 0 below n:\n c[i] = a[i] + 3 * a[i + 1]")
        both = join_loops(two, 0)
        self.assertEqual([both.origins, both.origin((0, 5, 1)), both.places(3, (1, 2, 0)), both.places(3, (1, 3, 0))],
                         [(((0, 0, 0), (1, 0, 0)),), (1, 5, 0), [(0, 2, 1)], []])
        sums = read_program("for i from 0 below 2 * n:\n s[0] = s[0] + x[i]")
        self.assertEqual(unroll_loop(sums, 0, 2).origins, (((0, 0, 0), (0, 0, 1)),))
        self.assertTrue(unroll_loop(sums, 0, 2).after.loops[0].step == 2)
        self.assertTrue(deal_loop(two, 0, 3).after.loops[2].statements[0].conditions[0].rest == 2)
        self.assertIsInstance(deal_loop(two, 0, 3).after.loops[2].statements[0].conditions[0], Rest)


if __name__ == "__main__":
    unittest.main()
