"""[67]: the way of a value back through copies."""

import random
import unittest

from loopsize.errors import BadSize, Long, NoLoop, NoRead, NoStatement, NoWork
from loopsize.paths import path
from loopsize.texts import program_text, read_program
from tests.plainpaths import PlainPaths, random_mover
from tests.samples import random_programs, reads_in

BIG = 10 ** 30
HALF = read_program("for i from 1 below n:\n x[i] = x[i // 2]\n")
CHAIN = read_program("for i from 0 below n:\n x[i] = x[i - 1]\n z[i] = 1 + x[i]\nfor i from 0 below 1:\n b[0] = x[n - 1] + z[0]\n")
SMALL = read_program("for i from 0 below n:\n x[i] = 2\n y[i] = x[i] + a[i] + a[-5]\n")


class PathsTest(unittest.TestCase):
    def test_examples(self):
        self.assertEqual(path(HALF, 20, (0, 0, 0), 13), (((0, 6, 0), (0, 3, 0), (0, 1, 0)), ("input", "x", 0)))
        told = path(HALF, BIG, (0, 0, 0), 2 ** 99)
        self.assertEqual([len(told[0]), told[0][97]], [99, (0, 2, 0)])

    def test_paths_by_plain_logs(self):
        chance = random.Random(301)
        met = set()
        programs = [random_mover(chance, pure=k % 2 == 0) for k in range(150)] + random_programs(302, 30)
        for program in programs:
            for n in (0, 1, 3, 6, 9):
                plain = PlainPaths(program, n)
                for work in plain.log.works:
                    for read in range(len(plain.takes[work])):
                        told = path(program, n, (work[0], work[2], read), work[1])
                        self.assertEqual(told, plain.path_of(work, read), program_text(program))
                        self.assertEqual([type(told), type(told[0]), type(told[1])], [tuple] * 3)
                        met.add((min(len(told[0]), 3), told[1][0], told[1][0] == "input" and told[1][2] < 0))
        for many in range(4):
            self.assertTrue({(many, "input", False), (many, "input", True)} <= met, met)
        self.assertTrue({(many, "work", False) for many in range(3)} <= met, met)

    def test_what_a_copy_is(self):
        for text, many in (("x[i - 1]", 3), ("1 + x[i - 1]", 0), ("2 * x[i - 1]", 0), ("-x[i - 1]", 0), ("x[i - 1] - x[i]", 0),
                           ("3 - 3 + x[i - 1]", 3)):
            program = read_program("for i from 1 below n:\n x[i] = {}\nfor i from 3 below n:\n b[i] = x[i]\n".format(text))
            self.assertEqual(len(path(program, 4, (1, 0, 0), 3)[0]), many, text)

    def test_the_three_kinds_of_ends(self):
        self.assertEqual(path(SMALL, 9, (0, 1, 0), 4), ((), ("work", 0, 4, 0)))
        self.assertEqual(path(SMALL, 9, (0, 1, 1), 4), ((), ("input", "a", 4)))
        self.assertEqual(path(SMALL, 9, (0, 1, 2), 4), ((), ("input", "a", -5)))
        self.assertEqual(path(CHAIN, 9, (0, 1, 0), 2), (((0, 2, 0), (0, 1, 0), (0, 0, 0)), ("input", "x", -1)))
        self.assertEqual(path(CHAIN, 9, (1, 0, 1), 0), ((), ("work", 0, 0, 1)))

    def test_long_paths(self):
        works = tuple((0, i, 0) for i in reversed(range(400)))
        self.assertEqual(path(CHAIN, 400, (1, 0, 0), 0), (works, ("input", "x", -1)))
        self.assertEqual(path(CHAIN, 0, (1, 0, 0), 0), ((), ("input", "x", -1)))
        for n in (401, 402, 1000, BIG):
            with self.assertRaises(Long) as caught:
                path(CHAIN, n, (1, 0, 0), 0)
            self.assertEqual(caught.exception.works, tuple((0, n - 1 - k, 0) for k in range(400)))
            self.assertIs(type(caught.exception.works), tuple)
        ends = read_program("for i from 0 below 1:\n x[0] = 7\nfor i from 1 below n:\n x[i] = x[i - 1]\n")
        self.assertEqual(len(path(ends, BIG, (1, 0, 0), 401)[0]), 400)
        self.assertEqual(path(ends, BIG, (1, 0, 0), 401)[1], ("work", 0, 0, 0))
        with self.assertRaises(Long):
            path(ends, BIG, (1, 0, 0), 402)

    def test_errors_and_their_order(self):
        for value in (2, -1, True, None, "0", 0.0, (0,), []):
            with self.assertRaises(NoLoop) as caught:
                path(CHAIN, -1, (value, 9, 9), None)
            self.assertIs(caught.exception.loop, value)
            with self.assertRaises(NoStatement) as caught:
                path(CHAIN, -1, (0, value, 9), None)
            self.assertIs(caught.exception.statement, value)
            with self.assertRaises(NoRead) as caught:
                path(CHAIN, -1, (1, 0, value), None)
            self.assertIs(caught.exception.read, value)
        for value in (-1, BIG + 1, True, None, "1", 1.0, ()):
            with self.assertRaises(BadSize) as caught:
                path(CHAIN, value, (0, 0, 0), None)
            self.assertIs(caught.exception.n, value)
        for value in (7, 8, -1, BIG, True, None, "1", 1.0, (1,), [], {}):
            with self.assertRaises(NoWork) as caught:
                path(CHAIN, 7, (0, 1, 0), value)
            self.assertEqual(caught.exception.work, (0, value, 1))
        read = [0, 0, 0]
        self.assertEqual(path(program=HALF, n=20, read=read, j=13)[1], ("input", "x", 0))
        self.assertEqual(read, [0, 0, 0])

    def test_great_sizes(self):
        moved = read_program("for i from 0 below n:\n t[n - 1 - i] = x[3 * i + 1]\nfor i from 0 below n:\n y[i] = t[i]\n"
                             "for i from 0 below n by 2:\n b[i] = 5 + y[n - 2 - i]\n")
        for n, j in ((BIG, 0), (BIG, 10 ** 29), (BIG - 1, 12)):
            self.assertEqual(path(moved, n, (2, 0, 0), j),
                             (((1, n - 2 - j, 0), (0, j + 1, 0)), ("input", "x", 3 * j + 4)))
        self.assertEqual(sum(len(reads_in(program)) for program in (moved, HALF)), 4)


if __name__ == "__main__":
    unittest.main()
