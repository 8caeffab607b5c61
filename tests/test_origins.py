"""[68]: where values come from, for all sizes at once."""

import random
import unittest
import unittest.mock

from loopsize.digitsets import DigitSet, digit_set, is_none
from loopsize.errors import Deep, NoArray, NoLoop, NoRead, NoStatement, TooLarge
from loopsize.origins import contents, origins
from loopsize.paths import path
from loopsize.texts import program_text, read_program
from tests.plainpaths import key_and_last, many_stretches, paths_by_size, random_mover, straight_copies
from tests.samples import or_error, reads_in

BIG = 10 ** 30
CHECKED = (0, 1, 2, 5, 8, 13)
HALF = read_program("for i from 1 below n:\n x[i] = x[i // 2]\n")
SHIFT = read_program("for i from 1 below n:\n x[i] = x[i - 1]\n")
BELOW = read_program("for i from 0 below n:\n x[i] = x[i - 1]\n z[i] = 1 + x[i]\n")
AROUND = read_program("for i from 0 below n:\n t[n - 1 - i] = x[i]\nfor i from 0 below n:\n x[i] = t[i]\n")
HAND = "for i from 0 below n:\n b[i] = a[i]\n" + "".join(
    "for i from 0 below n:\n {}[i] = {}[i]\n".format(to, away) for away, to in ("bc", "cd", "de", "ef"))


def programs(seed, many):
    chance = random.Random(seed)
    told = [HALF, SHIFT, BELOW, AROUND]
    for k in range(many):
        told.append(random_mover(chance, pure=k % 2 == 0))
    return told


def rows_at(told, n, numbers, bound=56):
    """For each of some numbers j the pairs (end, e) of the rows (n, j, e)."""
    return {j: [(end, last) for end, rows in told for last in range(bound) if (n, j, last) in rows] for j in numbers}


def plain_rows(names):
    """The same by plain paths; names are pairs (j, (works, end))."""
    return {j: [key_and_last(end)] for j, (works, end) in names}


class OriginsTest(unittest.TestCase):
    def test_examples(self):
        told = origins(SHIFT, (0, 0, 0))
        self.assertEqual([[end for end, _ in told], (BIG, 10 ** 29, 0) in told[0][1]], [[("input", "x")], True])
        with self.assertRaises(Deep) as caught:
            origins(HALF, (0, 0, 0))
        self.assertEqual(vars(caught.exception), {"n": 33, "counter": 32})
        self.assertEqual([[end for end, _ in origins(BELOW, (0, 1, 0))], [end for end, _ in contents(BELOW, "z")]],
                         [[("below", "x")], [("input", "z"), ("work", 0, 1)]])
        told = contents(AROUND, "x")
        self.assertEqual([end for end, _ in told], [("input", "x")])
        self.assertEqual([(7, 2, 4) in told[0][1], (7, 2, 2) in told[0][1], (7, 9, 9) in told[0][1]], [True, False, True])

    def check_told(self, told, paths, found):
        """What is told against plain paths: found has for each size the pairs (j, path)."""
        self.assertIs(type(told), tuple)
        ends = [end for end, _ in told]
        self.assertEqual(ends, sorted(ends))
        self.assertTrue(all(isinstance(rows, DigitSet) and not is_none(rows) for _, rows in told))
        for n, names in enumerate(found):
            if n not in CHECKED:
                continue
            self.assertEqual(rows_at(told, n, list(dict(names))), plain_rows(names), (program_text(paths[0].program), n))

    def test_origins_by_plain_logs(self):
        met = set()
        for program in programs(311, 60):
            paths = paths_by_size(program)
            straight = straight_copies(paths)
            for read in reads_in(program):
                found = []
                for there in paths:
                    works = [work for work in there.log.works if (work[0], work[2]) == read[:2]]
                    found.append([(work[1], there.path_of(work, read[2])) for work in works])
                deep = [(n, j) for n, names in enumerate(found) for j, (works, _) in sorted(names)
                        if many_stretches(works, straight) > 4]
                self.check_one(lambda: origins(program, read), paths, found, deep, met)
        self.assertTrue({"below", "input", "work", "deep", "told"} <= met, met)

    def test_contents_by_plain_logs(self):
        met = set()
        for program in programs(312, 60):
            paths = paths_by_size(program)
            straight = straight_copies(paths)
            for array in program.arrays:
                found = [[(cell, there.path_of_cell(array, cell)) for cell in range(24)] for there in paths]
                deep = [(n, cell) for n, names in enumerate(found) for cell, (works, _) in names
                        if many_stretches(works, straight) > 4]
                self.check_one(lambda: contents(program, array), paths, found, deep, met)
        self.assertTrue({"below", "input", "work", "deep", "told"} <= met, met)

    def check_one(self, call, paths, found, deep, met):
        try:
            told = call()
        except Deep as error:
            if deep:
                self.assertEqual((error.n, error.counter), deep[0], program_text(paths[0].program))
            else:
                self.assertGreaterEqual(error.n, len(paths))
            met.add("deep")
            return
        except TooLarge:
            self.assertEqual(deep, [])
            met.add("large")
            return
        self.assertEqual(deep, [], program_text(paths[0].program))
        self.check_told(told, paths, found)
        met.update(end[0] for end, _ in told)
        met.add("told")

    def test_origins_are_ends_of_paths_at_great_sizes(self):
        for program in programs(313, 30):
            for read in reads_in(program):
                told = or_error(origins, program, read)
                if isinstance(told, tuple):
                    for n, j in ((BIG, BIG // 2), (BIG, 7), (900, 450), (901, 899)):
                        there = or_error(path, program, n, read, j)
                        if isinstance(there, tuple):
                            end, last = key_and_last(there[1])
                            self.assertTrue((n, j, last) in dict(told)[end], program_text(program))
                        elif there == "NoWork":
                            self.assertFalse(any((n, j, last) in rows for _, rows in told for last in (0, j, 1)))

    def test_paths_of_4_and_of_5_stretches(self):
        five = read_program(HAND + "for i from 3 below n:\n z[i] = 1 + e[i - 3] + f[i - 2]\n")
        self.assertEqual([end for end, _ in origins(five, (5, 0, 0))], [("input", "a")])
        self.assertTrue(origins(five, (5, 0, 0))[0][1] == digit_set(3, ((("is", (0, 1, -1), 3), ("least", (1, -1, 0), 1), ("least", (0, 1, 0), 3)),)))
        with self.assertRaises(Deep) as caught:
            origins(five, (5, 0, 1))
        self.assertEqual(vars(caught.exception), {"n": 4, "counter": 3})
        self.assertEqual([end for end, _ in contents(five, "e")], [("input", "a"), ("input", "e")])
        with self.assertRaises(Deep) as caught:
            contents(five, "f")
        self.assertEqual(vars(caught.exception), {"n": 1, "counter": 0})
        self.assertEqual([end for end, _ in contents(five, "z")], [("input", "z"), ("work", 5, 0)])

    def test_deep_paths_are_the_same_by_machines_and_by_plain_logs(self):
        chance = random.Random(314)
        met = set()
        for _ in range(40):
            text = program_text(random_mover(chance))
            told = []
            for bound in (-1, 10 ** 9):
                with unittest.mock.patch("loopsize.endings.MANY_STATES", bound):
                    program = read_program(text)
                    told.append([self.deep_or_none(contents, program, array) for array in program.arrays])
                    told[-1].extend(self.deep_or_none(origins, program, read) for read in reads_in(program))
            self.assertEqual(told[0], told[1], text)
            met.update(kind for kind in told[0])
        self.assertGreater(len(met), 3)

    def deep_or_none(self, function, *arguments):
        try:
            function(*arguments)
        except Deep as error:
            return error.n, error.counter
        except TooLarge:
            return "TooLarge"
        return None

    def test_stretches(self):
        # The copies go by 2: 0, 1 are taken from elsewhere, whatever n is.
        two = read_program("for i from 2 below n:\n x[i] = x[i - 2]\nfor i from 0 below n:\n y[i] = x[i]\n")
        told = contents(two, "y")
        self.assertEqual([end for end, _ in told], [("input", "x"), ("input", "y")])
        self.assertTrue(all((n, j, j % 2) in told[0][1] for n in (3, 8, BIG) for j in range(3)))
        down = read_program("for i from 0 below n down:\n if i mod 3 >= 0: x[i] = x[i + 3]\n".replace("i mod 3 >= 0", "n >= 0"))
        told = contents(down, "x")
        self.assertEqual([end for end, _ in told], [("input", "x")])
        for n in (4, 7, BIG):
            for j in range(min(n, 5)):
                self.assertIn((n, j, n + (j - n) % 3), told[0][1])
        # The distance to the source is not always the same: each work is a stretch of its own.
        mixed = read_program("for i from 1 below n:\n x[i] = x[(2 * i - 1) // 3]\n")
        with self.assertRaises(Deep):
            origins(mixed, (0, 0, 0))
        # Other copies lie between: 5 works of one copy, none of which follow one another.
        turns = read_program("for i from 1 below 5:\n x[i] = y[i - 1]\n y[i] = x[i]\nfor i from 0 below 1:\n b[0] = 1 + y[2] + x[3]\n")
        self.assertEqual([end for end, _ in origins(turns, (1, 0, 0))], [("input", "y")])
        with self.assertRaises(Deep) as caught:
            origins(turns, (1, 0, 1))
        self.assertEqual(vars(caught.exception), {"n": 0, "counter": 0})

    def test_stretches_that_are_long(self):
        long = read_program("for i from 0 below n:\n x[i] = x[i - 12]\n if i >= 900: b[i] = 1 + x[i - 3]\n")
        told = origins(long, (0, 1, 0))
        self.assertEqual([end for end, _ in told], [("below", "x")])
        for n, j in ((1000, 950), (BIG, BIG - 1)):
            self.assertIn((n, j, -((j - 3) % 12 - 12)), told[0][1])
        far = read_program("for i from 950 below n:\n if i <= 1989 and i >= 960: x[i] = x[i - 20]\n b[i] = 1 + x[i]\n".replace("<= 1989", "<= 999"))
        told = origins(far, (0, 1, 0))
        self.assertEqual([end for end, _ in told], [("input", "x")])
        for n, j, cell in ((1000, 999, 959), (1000, 960, 940), (1000, 980, 940), (2000, 1999, 1999), (1000, 959, 959)):
            self.assertIn((n, j, cell), told[0][1])

    def test_all_kinds_of_ends_in_their_order(self):
        program = read_program("for i from 0 below n:\n a[i] = 1\nfor i from 0 below n:\n if i >= 9: t[i] = a[i]\n"
                               " if i >= 6 and i <= 8: t[i] = b[i]\n if i <= 5 and i >= 3: t[i] = b[2 - i]\n if i <= 2: t[i] = a[-1 - i]\n"
                               " c[i] = 4\nfor i from 0 below 2 * n:\n if i <= n - 1: u[i] = t[i] + 1\n u[i] = t[i]\n if i mod 2 == 0: u[i] = c[i]\n")
        ends = [("below", "a"), ("below", "b"), ("input", "b"), ("input", "c"), ("input", "t"), ("input", "u"), ("work", 0, 0), ("work", 1, 4)]
        self.assertEqual([end for end, _ in contents(program, "u")], ends)
        told = dict(contents(program, "u"))
        self.assertTrue((10, 3, 1) in told["below", "b"] and (10, 1, 2) in told["below", "a"] and (10, 7, 7) in told["input", "b"])
        self.assertTrue((10, 9, 9) in told["work", 0, 0] and (10, 8, 8) in told["work", 1, 4] and (10, 12, 12) in told["input", "c"])
        self.assertTrue((10, 19, 19) in told["input", "t"] and (10, 20, 20) in told["input", "u"])
        only = read_program("for i from 0 below n:\n b[i] = 1 + a[i]\n")
        self.assertTrue(contents(only, "a")[0][1] == digit_set(3, ((("is", (0, 1, -1), 0),),)))
        self.assertEqual(contents(read_program("for i from 5 below 5:\n b[i] = a[i]\n"), "a")[0][0], ("input", "a"))
        self.assertEqual(origins(read_program("for i from 5 below 5:\n b[i] = a[i]\n"), (0, 0, 0)), ())

    def test_too_large_behind_deep(self):
        large = read_program("for i from 0 below n:\n x[i] = x[i - 499]\nfor i from 0 below n:\n z[i] = x[i]\n")
        for call in (lambda: origins(large, (1, 0, 0)), lambda: contents(large, "z"), lambda: origins(large, (0, 0, 0))):
            with self.assertRaises(TooLarge) as caught:
                call()
            self.assertEqual(caught.exception.most, 400)
        deep = read_program("for i from 0 below n:\n x[i] = x[i - 99]\n b[i] = a[i]\n c[i] = b[i]\n d[i] = c[i]\n e[i] = d[i]\n"
                            " if i mod 2 == 0: g[i] = x[i]\n if i mod 2 == 1 and i >= 5: g[i] = e[i]\n z[i] = 1 + g[i] + x[i]\n")
        for call in (lambda: origins(deep, (0, 7, 0)), lambda: contents(deep, "g")):
            with self.assertRaises(Deep) as caught:
                call()
            self.assertEqual(vars(caught.exception), {"n": 6, "counter": 5})
        self.assertEqual(or_error(origins, deep, (0, 7, 1)), "TooLarge")

    def test_errors_and_their_order(self):
        for value in (2, -1, True, None, "0", 0.0, (0,), []):
            with self.assertRaises(NoLoop) as caught:
                origins(BELOW, (value, 9, 9))
            self.assertIs(caught.exception.loop, value)
            with self.assertRaises(NoStatement) as caught:
                origins(BELOW, (0, value, 9))
            self.assertIs(caught.exception.statement, value)
            with self.assertRaises(NoRead) as caught:
                origins(BELOW, (0, 1, value))
            self.assertIs(caught.exception.read, value)
        for value in ("", "a", "xx", None, 0, True, ("x",), ["x"], {}):
            with self.assertRaises(NoArray) as caught:
                contents(BELOW, value)
            self.assertIs(caught.exception.array, value)
        read = [0, 1, 0]
        self.assertEqual(len(origins(program=BELOW, read=read)), 1)
        self.assertEqual(read, [0, 1, 0])
        self.assertEqual(len(contents(program=BELOW, array="z")), 2)


if __name__ == "__main__":
    unittest.main()
