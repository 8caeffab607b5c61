"""[64] and [65]: turns that may be done in any order, and fronts."""

import random
import unittest

from loopsize.digitsets import DigitSet, is_none, without
from loopsize.earlyfronts import early_deeper
from loopsize.errors import BadGrade, BadNumber, BadSize, Deeper, NoLoop, TooLarge
from loopsize.members import least_of
from loopsize.orders import turned_pair
from loopsize.rewriting import turn_loop
from loopsize.runs import input_value, run_program
from loopsize.texts import program_text, read_program
from loopsize.together import conflicts, fronts, is_free
from tests.plainturns import cells_of_turns, counters_of, do_touch, kept_apart, plain_conflicts, plain_fronts
from tests.plainturns import sources_in_order, value_in_order, works_in_order
from tests.samples import or_error, random_programs
from tests.test_spaces import NONE

BIG = 10 ** 30
SIZES = range(7)
GRADES = ("strict", "free", "values")
WANTED = (None, (), ("x",), ["y", "none"])
FAR = read_program("for i from 3 below n:\n x[i] = 1 + x[i - 2] + x[i - 3]\n")
CELL = read_program("for i from 0 below n:\n s[0] = a[i]\n b[i] = s[0]\n")
HALVES = read_program("for i from 0 below 2 * n:\n x[i + n] = x[i]\n if i >= n: y[i] = 1\n")
NO_TURNS = read_program("for i from 5 below 5:\n x[0] = 1 + x[0]\n")


def pairs_at(told, n, bound=20):
    return {(i, j) for i in range(bound) for j in range(bound) if (n, i, j) in told}


class ConflictsTest(unittest.TestCase):
    def test_examples(self):
        self.assertEqual([least_of(conflicts(CELL, 0, "strict")), least_of(conflicts(CELL, 0, "free")),
                          is_none(conflicts(CELL, 0, "values"))], [(2, 0, 1), (2, 0, 1), True])
        self.assertEqual([is_none(conflicts(CELL, 0, "free", wanted=("b",))),
                          is_free(CELL, 0, "free", BIG, wanted=("a", "s"))], [True, False])

    def test_conflicts_by_plain_logs(self):
        met = {grade: set() for grade in GRADES}
        for program in random_programs(201, 40) + [FAR, CELL, HALVES, NO_TURNS]:
            for loop in range(len(program.loops)):
                for grade in GRADES:
                    told = or_error(conflicts, program, loop, grade)
                    if told == "TooLarge":
                        continue
                    for n in SIZES:
                        plain = plain_conflicts(program, n, loop, grade)
                        self.assertEqual(pairs_at(told, n), plain, (program_text(program), loop, grade, n))
                        self.assertIs(is_free(program, loop, grade, n), not plain)
                        met[grade].add(bool(plain))
        self.assertEqual(met, {grade: {False, True} for grade in GRADES})

    def test_wanted_arrays_by_plain_logs(self):
        unlike = 0
        for program in random_programs(202, 24):
            for loop in range(len(program.loops)):
                for wanted in WANTED:
                    for n in (2, 5):
                        plain = plain_conflicts(program, n, loop, "free", wanted)
                        self.assertIs(is_free(program, loop, "free", n, wanted=wanted), not plain)
                        unlike += plain != plain_conflicts(program, n, loop, "free")
                    for grade in ("strict", "values"):
                        self.assertIs(is_free(program, loop, grade, 4, wanted=wanted), is_free(program, loop, grade, 4))
        self.assertGreater(unlike, 10)
        for wanted in WANTED:
            told = conflicts(CELL, 0, "free", wanted=wanted)
            for n in SIZES:
                self.assertEqual(pairs_at(told, n), plain_conflicts(CELL, n, 0, "free", wanted))

    def test_values_of_later_loops_count_whatever_is_wanted(self):
        later = read_program("for i from 0 below n:\n s[0] = a[i]\nfor i from 0 below n:\n b[i] = s[0]\n")
        self.assertEqual(least_of(conflicts(later, 0, "free", wanted=("a",))), (2, 0, 1))
        lost = read_program("for i from 0 below n:\n s[0] = a[i]\nfor i from 0 below n:\n s[i] = 1\n")
        self.assertTrue(is_none(conflicts(lost, 0, "free")))
        self.assertEqual(least_of(conflicts(lost, 0, "strict")), (2, 0, 1))

    def test_one_grade_is_within_the_next(self):
        for program in random_programs(203, 40):
            for loop in range(len(program.loops)):
                sets = [or_error(conflicts, program, loop, grade) for grade in GRADES]
                if "TooLarge" not in sets:
                    self.assertTrue(is_none(without(sets[1], sets[0])), program_text(program))
                    self.assertTrue(is_none(without(sets[2], sets[1])), program_text(program))

    def test_turns_without_conflict_in_any_order(self):
        chance = random.Random(204)
        many = 0
        for program in random_programs(204, 80):
            for loop in range(len(program.loops)):
                for wanted in (None, ("x",)):
                    n = chance.choice([3, 5])
                    counters = counters_of(program.loops[loop], n)
                    plain = works_in_order(program, n, loop, counters)
                    wanted_all = kept_apart(sources_in_order(program, n, plain), wanted)
                    if is_free(program, loop, "free", n, wanted=wanted):
                        mixed = chance.sample(counters, len(counters))
                        works = works_in_order(program, n, loop, mixed)
                        self.assertEqual(kept_apart(sources_in_order(program, n, works), wanted), wanted_all)
                        many += len(counters) > 1
                    for i, j in sorted(plain_conflicts(program, n, loop, "free", wanted))[:5]:
                        others = [k for k in counters if k not in (i, j)]
                        ways = [sources_in_order(program, n, works_in_order(program, n, loop, others + last))
                                for last in ([i, j], [j, i])]
                        self.assertNotEqual(kept_apart(ways[0], wanted), kept_apart(ways[1], wanted))
        self.assertGreater(many, 50)

    def test_runs_in_any_order_leave_the_same(self):
        chance = random.Random(205)
        for program in random_programs(205, 60):
            for loop in range(len(program.loops)):
                if is_free(program, loop, "free", 5):
                    counters = counters_of(program.loops[loop], 5)
                    works = works_in_order(program, 5, loop, chance.sample(counters, len(counters)))
                    run = run_program(program, 5)
                    for (array, cell), value in value_in_order(program, 5, works, input_value).items():
                        self.assertEqual(run.value_of(array, cell), value, program_text(program))

    def test_turning_round_keeps_the_order_without_strict_conflicts_alone(self):
        met = set()
        for program in random_programs(206, 50):
            for loop in range(len(program.loops)):
                told = or_error(conflicts, program, loop, "strict")
                if told != "TooLarge":
                    self.assertIs(turned_pair(turn_loop(program, loop)) is None, is_none(told))
                    met.add(is_none(told))
        self.assertEqual(met, {False, True})

    def test_great_sizes(self):
        for n in (2, BIG - 1, BIG):
            self.assertIs(is_free(FAR, 0, "strict", n), n < 6)
            self.assertIs(is_free(HALVES, 0, "values", n), False)
        told = conflicts(FAR, 0, "values")
        for n, i, j in ((BIG, BIG - 3, BIG - 1), (BIG, BIG - 4, BIG - 1), (7 * BIG, BIG, BIG + 2)):
            self.assertIn((n, i, j), told)
            self.assertNotIn((n, i, j + 2), told)
            self.assertNotIn((j, i, j), told)
        late = read_program("for i from 0 below n:\n if i >= 900: s[0] = a[i]\n")
        self.assertEqual([is_free(late, 0, "free", n) for n in (0, 1, 901, 902, BIG)], [True, True, True, False, False])
        self.assertEqual(least_of(conflicts(late, 0, "free")), (902, 900, 901))

    def test_errors_and_their_order(self):
        for value in (1, -1, True, None, "0", 0.0, (0,), [], {}):
            for call in (lambda: conflicts(CELL, value, 0), lambda: is_free(CELL, value, 0, -1),
                         lambda: fronts(CELL, value, 0)):
                with self.assertRaises(NoLoop) as caught:
                    call()
                self.assertIs(caught.exception.loop, value)
        for value in (-1, BIG + 1, True, None, "1", 1.0, ()):
            with self.assertRaises(BadSize) as caught:
                is_free(CELL, 0, "none", value)
            self.assertIs(caught.exception.n, value)
        for value in ("", "Free", "order", None, 0, True, ("free",), ["free"], {}, b"free"):
            for call in (lambda: conflicts(CELL, 0, value), lambda: is_free(CELL, 0, value, BIG)):
                with self.assertRaises(BadGrade) as caught:
                    call()
                self.assertIs(caught.exception.grade, value)
        self.assertIsInstance(conflicts(program=CELL, loop=0, grade="free", wanted=["b"]), DigitSet)
        self.assertIs(is_free(program=CELL, loop=0, grade="free", n=BIG, wanted=["b"]), True)
        with self.assertRaises(TypeError):
            conflicts(CELL, 0, "free", ("b",))

    def test_too_large(self):
        large = read_program("for i from 0 below 2 * n by 5:\n x[11 * i + 97] = 1 + x[12 * i - 5 * n - 91]\n"
                             " x[7 * i + n] = 1\n")
        for grade in GRADES:
            with self.assertRaises(TooLarge) as caught:
                conflicts(large, 0, grade)
            self.assertEqual(caught.exception.most, 400)
            self.assertIn(is_free(large, 0, grade, BIG), (False, True))


class FrontsTest(unittest.TestCase):
    def test_examples(self):
        with self.assertRaises(Deeper) as caught:
            fronts(FAR, 0, 2)
        self.assertEqual((caught.exception.n, caught.exception.chain), (8, (3, 5, 7)))
        told = fronts(HALVES, 0, 2)
        self.assertEqual([len(told), (5, 4) in told[0], (5, 5) in told[1]], [2, True, True])

    def test_fronts_by_plain_logs(self):
        met = set()
        for program in random_programs(211, 60) + [HALVES, NO_TURNS]:
            for loop in range(len(program.loops)):
                for most in (1, 2, 3):
                    plain = [plain_fronts(program, n, loop) for n in SIZES]
                    deep = [n for n in SIZES if max(plain[n].values(), default=0) > most]
                    try:
                        told = fronts(program, loop, most)
                    except Deeper as error:
                        self.check_chain(program, loop, most, error, deep)
                        met.add("deep")
                        continue
                    except TooLarge:
                        continue
                    self.assertIs(type(told), tuple)
                    self.assertEqual(deep, [])
                    self.assertTrue(all(not is_none(part) for part in told))
                    met.add(len(told))
                    for n in SIZES:
                        found = {i: k + 1 for i in range(30) for k, part in enumerate(told) if (n, i) in part}
                        self.assertEqual(found, plain[n], program_text(program))
        self.assertTrue({"deep", 0, 1, 2} <= met, met)

    def check_chain(self, program, loop, most, error, deep):
        if deep:
            self.assertEqual(error.n, deep[0], program_text(program))
        else:
            self.assertGreaterEqual(error.n, len(SIZES))
        if error.n > 200:
            return
        self.assertGreater(max(plain_fronts(program, error.n, loop).values()), most)
        self.assertEqual(len(error.chain), most + 1)
        self.assertIs(type(error.chain), tuple)
        cells = cells_of_turns(program, error.n, loop)
        turns = [program.loops[loop].turn_of(error.n, counter) for counter in error.chain]
        self.assertEqual(turns, sorted(set(turns)))
        for one, other in zip(error.chain, error.chain[1:]):
            self.assertTrue(do_touch(cells[one], cells[other]), program_text(program))

    def test_chains_that_are_seen_early(self):
        met = set()
        for program in random_programs(213, 80):
            for loop in range(len(program.loops)):
                for most in (1, 2, 4):
                    told = early_deeper(program.loops[loop], most, 2000)
                    deep = [n for n in SIZES if max(plain_fronts(program, n, loop).values(), default=0) > most]
                    if deep:
                        self.assertEqual(told[0], deep[0], program_text(program))
                    if told is not None:
                        self.check_chain(program, loop, most, Deeper(*told), deep)
                        met.add(most)
        self.assertEqual(met, {1, 2, 4})
        self.assertIsNone(early_deeper(NO_TURNS.loops[0], 1, 2000))

    def test_each_most(self):
        text = "for i from 0 below {}:\n s[0] = 1\n"
        for most in range(1, 7):
            told = fronts(read_program(text.format(most)), 0, most)
            self.assertEqual(len(told), most)
            for k, part in enumerate(told):
                self.assertTrue((BIG, k) in part and (0, k) in part and (BIG, k + 1) not in part)
            for down in ("", " down"):
                with self.assertRaises(Deeper) as caught:
                    fronts(read_program(text.format("n" + down)), 0, most)
                chain = tuple(range(most + 1))
                self.assertEqual(vars(caught.exception), {"n": most + 1, "chain": chain[::-1] if down else chain})
        self.assertEqual(len(fronts(read_program(text.format(2)), 0, 6)), 2)
        with self.assertRaises(Deeper) as caught:
            fronts(read_program("for i from 0 below n:\n if i >= 900: s[0] = 1\n"), 0, 2)
        self.assertEqual(vars(caught.exception), {"n": 903, "chain": (900, 901, 902)})

    def test_loops_without_turns_and_without_touching_turns(self):
        for most in (1, 6):
            self.assertEqual(fronts(NO_TURNS, 0, most), ())
        one = fronts(read_program("for i from 2 below n by 3 down:\n x[i] = 1\n"), 0, 1)
        self.assertEqual([(n, i) for n in range(9) for i in range(9) if (n, i) in one[0]],
                         [(n, i) for n in range(9) for i in range(2, n, 3)])

    def test_fronts_of_great_sizes(self):
        told = fronts(HALVES, 0, 6)
        self.assertEqual([(BIG, BIG - 1) in told[0], (BIG, BIG) in told[0], (BIG, BIG) in told[1],
                          (BIG, 2 * BIG - 1) in told[1], (BIG, 2 * BIG) in told[1]], [True, False, True, True, False])

    def test_wrong_numbers(self):
        for value in (0, 7, -1, BIG, True, None, "2", 2.0, (2,), [], *NONE[2:]):
            with self.assertRaises(BadNumber) as caught:
                fronts(FAR, 0, value)
            self.assertEqual(caught.exception.what, "most")
            self.assertIs(caught.exception.number, value)


if __name__ == "__main__":
    unittest.main()
