"""[55] to [58]: arrays that are kept in few places."""

import random
import unittest

from loopsize.digitsets import digit_set, is_none
from loopsize.errors import BadNumber, NoArray, NotKept, TooFar
from loopsize.folding import fold_distances, fold_fails, fold_is_right, fold_least
from loopsize.runs import input_value, log_program, run_program
from loopsize.texts import program_text, read_program
from tests.samples import kept_program, or_error, random_programs, statement_of
from tests.test_spaces import NONE

BIG = 10 ** 30
MODULUS = 1000003
SIZES = range(8)
NEAR = read_program("for i from 0 below 1:\n  t[0] = a[0]\nfor i from 1 below n:\n  t[i] = a[i]\n  b[i] = t[i] + t[i - 1]")
WIDE = read_program("for i from 0 below n:\n  t[2 * i] = a[i]\nfor i from 0 below n:\n  b[i] = t[2 * i]")
LATE = read_program("for i from 0 below n:\n t[i] = a[i]\n if i >= 700: b[i] = t[i - 3] + t[i - 5]\n")


def programs(seed, many):
    chance = random.Random(seed)
    return [NEAR, WIDE] + [kept_program(chance) for _ in range(many)]


def plain_distances(program, n, array):
    """For each distance at a size the tuples (n, r, read, w, v) that have it; None if the array is not kept there."""
    log = log_program(program, n)
    place = {work: at for at, work in enumerate(log.works)}
    told = {}
    for at, work in enumerate(log.works):
        for read, (name, cell, source) in enumerate(log.takes[at]):
            if name == array and source is None:
                return None
            if name == array:
                for k in range(place[source] + 1, at):
                    if log.writes[k][0] == array and log.writes[k][1] != cell:
                        found = told.setdefault(abs(log.writes[k][1] - cell), [])
                        found.append((n, work, read, source, log.works[k]))
    return told


def first_not_kept(program, array, sizes):
    for n in sizes:
        log = log_program(program, n)
        for work, taken in zip(log.works, log.takes):
            for read, (name, _, source) in enumerate(taken):
                if name == array and source is None:
                    return n, work, read
    return None


def folded_sources(program, n, array, m):
    """Whose value each read of the folded array takes, in order."""
    held = {}
    told = []
    for work in log_program(program, n).works:
        statement = statement_of(program, work)
        for read in statement.reads:
            if read.array == array:
                told.append(held.get(read.place(work[1], n) % m))
        if statement.array == array:
            held[statement.cell(work[1], n) % m] = work
    return told


def folded_run(program, n, array, m):
    """What the other arrays hold behind a run with the array folded."""
    cells = {}
    for work in log_program(program, n).works:
        statement = statement_of(program, work)
        value = statement.constant
        for read in statement.reads:
            cell = read.place(work[1], n)
            key = (read.array, cell % m if read.array == array else cell)
            value += read.factor * cells.get(key, input_value(*key))
        cell = statement.cell(work[1], n)
        cells[statement.array, cell % m if statement.array == array else cell] = value % MODULUS
    return {key: value for key, value in cells.items() if key[0] != array}


class FoldingTest(unittest.TestCase):
    def test_examples(self):
        self.assertEqual([fold_least(NEAR, "t"), fold_least(WIDE, "t"), fold_is_right(NEAR, "t", BIG),
                          fold_is_right(WIDE, "t", BIG + 1)], [2, None, True, False])
        told = fold_distances(NEAR, "t")
        self.assertEqual([(1, 1) in told, (2, 1) in told, (BIG, 2) in told], [False, True, False])
        self.assertEqual([fold_fails(NEAR, "t", 1), fold_fails(NEAR, "t", 2), fold_fails(WIDE, "t", 7)[0]],
                         [(2, (1, 1, 1), 1, (0, 0, 0), (1, 1, 0)), None, 8])

    def test_distances_by_plain_logs(self):
        met = set()
        for program in programs(101, 40):
            for array in program.arrays:
                told = or_error(fold_distances, program, array)
                plain = {n: plain_distances(program, n, array) for n in SIZES}
                if None in plain.values():
                    self.assertEqual(told, "NotKept", program_text(program))
                    continue
                if told in ("NotKept", "TooLarge"):
                    continue
                met.add(bool(plain[max(SIZES)]))
                for n in SIZES:
                    self.assertEqual([d for d in range(45) if (n, d) in told], sorted(plain[n]), program_text(program))
        self.assertEqual(met, {False, True})

    def test_right_numbers_and_failures_by_plain_logs(self):
        for program in programs(102, 25):
            for array in program.arrays:
                plain = {n: plain_distances(program, n, array) for n in SIZES}
                if None in plain.values() or or_error(fold_least, program, array) == "NotKept":
                    continue
                for m in (1, 2, 3, 4, 6, 7, 25, 100):
                    self.check_number(program, array, plain, m)
                least = or_error(fold_least, program, array)
                if least is None:
                    self.assertFalse(any(fold_is_right(program, array, m) for m in (*range(1, 30), BIG)))
                elif least != "TooFar":
                    right = [m for m in range(1, least + 1) if fold_is_right(program, array, m)]
                    self.assertEqual(right, [least], program_text(program))

    def check_number(self, program, array, plain, m):
        told = fold_fails(program, array, m)
        failing = [n for n in SIZES if any(d % m == 0 for d in plain[n])]
        if failing:
            n = failing[0]
            found = [entry for d in plain[n] if d % m == 0 for entry in plain[n][d]]
            self.assertIn(told, found, program_text(program))
        elif told is not None:
            self.assertGreaterEqual(told[0], len(SIZES))
        right = or_error(fold_is_right, program, array, m)
        if right != "TooFar":
            self.assertIs(right, told is None)

    def test_what_right_numbers_are_for(self):
        for program in programs(103, 20):
            array = "t"
            if or_error(fold_distances, program, array) in ("NotKept", "TooLarge") or array not in program.arrays:
                continue
            for n in (2, 5):
                plain = plain_distances(program, n, array)
                log = log_program(program, n)
                sources = [source for taken in log.takes for name, _, source in taken if name == array]
                for m in (1, 2, 3, 5, 8):
                    right = not any(d % m == 0 for d in plain)
                    self.assertIs(folded_sources(program, n, array, m) == sources, right, program_text(program))
                    if right:
                        run = run_program(program, n)
                        for (name, cell), value in folded_run(program, n, array, m).items():
                            self.assertEqual(run.value_of(name, cell), value)

    def test_not_kept_is_told_first_and_with_what_comes_first(self):
        many = 0
        for program in random_programs(104, 40):
            for array in program.arrays:
                found = first_not_kept(program, array, SIZES)
                for call in (lambda: fold_distances(program, array), lambda: fold_least(program, array),
                             lambda: fold_is_right(program, array, "m"), lambda: fold_fails(program, array, "m")):
                    if found is not None:
                        with self.assertRaises(NotKept) as caught:
                            call()
                        error = caught.exception
                        self.assertEqual((error.n, error.work, error.read), found, program_text(program))
                        many += 1
        self.assertGreater(many, 50)
        for function, more in ((fold_distances, ()), (fold_least, ()), (fold_is_right, (0,)), (fold_fails, (0,))):
            with self.assertRaises(NotKept) as caught:
                function(LATE, "a", *more)
            self.assertEqual(vars(caught.exception), {"n": 1, "work": (0, 0, 0), "read": 0})
        last = read_program("for i from 0 below n:\n t[i] = 1\n if i >= 600: b[i] = t[i - 1] + t[999 - i]\n")
        with self.assertRaises(NotKept) as caught:
            fold_least(last, "t")
        self.assertEqual(vars(caught.exception), {"n": 1001, "work": (0, 1000, 1), "read": 1})

    def test_numbers_that_come_late(self):
        self.assertEqual([fold_least(LATE, "t"), fold_is_right(LATE, "t", 5), fold_is_right(LATE, "t", 6)], [6, False, True])
        n, r, read, w, v = fold_fails(LATE, "t", 5)
        self.assertEqual((n, r, read, w, v), (701, (0, 700, 1), 1, (0, 695, 0), (0, 700, 0)))
        self.assertEqual(fold_fails(LATE, "t", 3)[0], 701)
        self.assertIsNone(fold_fails(LATE, "t", 100))

    def test_arrays_that_are_not_read_or_have_no_distance(self):
        for array in ("b",):
            self.assertTrue(is_none(fold_distances(NEAR, array)))
            self.assertEqual([fold_least(NEAR, array), fold_is_right(NEAR, array, 1), fold_fails(NEAR, array, 1)], [1, True, None])
        one = read_program("for i from 0 below n:\n t[i] = a[i]\n b[i] = t[i]\n")
        self.assertEqual(fold_least(one, "t"), 1)

    def test_writes_that_nobody_reads_count(self):
        text = "for i from 0 below n:\n t[i] = a[i]\n t[i + 4] = 1\n b[i] = t[i]\n"
        self.assertTrue(fold_distances(read_program(text), "t") == digit_set(2, ((("is", (0, 1), 4), ("least", (1, 0), 1)),)))
        self.assertEqual(fold_least(read_program(text), "t"), 3)
        below = read_program("for i from 0 below n:\n t[-i - 3] = a[i]\n t[2 * i + 1] = 1\n b[i] = t[-i - 3]\n")
        self.assertEqual([(5, d) in fold_distances(below, "t") for d in (4, 7, 10, 13, 16, 19)], [True] * 5 + [False])
        self.assertEqual([fold_least(below, "t"), fold_is_right(below, "t", 3 * BIG), fold_is_right(below, "t", BIG)],
                         [3, True, False])

    def test_no_number_and_great_ones(self):
        turned = read_program("for i from 0 below n:\n t[i] = a[i]\nfor i from 0 below n:\n b[i] = t[n - 1 - i]\n")
        self.assertIsNone(fold_least(turned, "t"))
        for m in (1, 64, 100):
            self.assertEqual(fold_fails(turned, "t", m)[0], m + 1)
        steps = read_program("for i from 0 below 3 * n by 5:\n t[i] = a[i]\nfor i from 0 below 3 * n by 5:\n b[i] = t[i]\n")
        self.assertEqual([fold_is_right(steps, "t", m) for m in (5, 6, BIG)], [False, False, False])

    def test_errors_and_their_order(self):
        for value in ("", "c", "tt", None, 0, True, 1.0, ("t",), ["t"], {}):
            for call in (lambda: fold_distances(NEAR, value), lambda: fold_least(NEAR, value),
                         lambda: fold_is_right(NEAR, value, 0), lambda: fold_fails(NEAR, value, 0)):
                with self.assertRaises(NoArray) as caught:
                    call()
                self.assertIs(caught.exception.array, value)
        for value in (0, -3, True, False, None, "1", 2.0, (2,), [], *NONE[2:]):
            for function in (fold_is_right, fold_fails):
                with self.assertRaises(BadNumber) as caught:
                    function(NEAR, "t", value)
                self.assertEqual(caught.exception.what, "m")
                self.assertIs(caught.exception.number, value)
        self.assertEqual(or_error(fold_fails, NEAR, "t", 101), "BadNumber")
        self.assertIs(fold_is_right(NEAR, "t", 101), True)

    def test_too_far(self):
        far = read_program("for i from 0 below n:\n t[i] = 1\nfor i from 0 below n:\n if i mod 3 == 0: t[12 * i + 12 * n + 999] = 1\n"
                           "for i from 0 below n:\n b[i] = t[i]\n")
        self.assertEqual(or_error(fold_least, far, "t"), None)
        wide = read_program("for i from 0 below 13:\n t[0] = 1\n" + "for i from 0 below n by 13:\n t[11 * i + 999] = 1\n"
                            "for i from 0 below n by 16:\n t[12 * i + 999] = 1\nfor i from 0 below n by 11:\n t[7 * i + 998] = 1\n"
                            "for i from 0 below 1:\n b[0] = t[0]\n")
        for call in (lambda: fold_least(wide, "t"), lambda: fold_is_right(wide, "t", 3)):
            with self.assertRaises(TooFar) as caught:
                call()
            self.assertEqual((caught.exception.what, caught.exception.limit), ("period", 2048))
        self.assertEqual(or_error(fold_is_right, wide, "t", 0), "BadNumber")
        self.assertEqual(fold_fails(wide, "t", 9)[0], 1)


if __name__ == "__main__":
    unittest.main()
