"""[70]: what a program comes to."""

import unittest

from loopsize.errors import LoopError, TooFar
from loopsize.flows import sources_of
from loopsize.folding import fold_least
from loopsize.formulas import formula_of
from loopsize.gaps import lanes, least_gap
from loopsize.reports import Report, report_of, report_text
from loopsize.spaces import bad_cell
from loopsize.texts import program_text, read_program
from loopsize.works import work_totals
from tests.samples import or_error, random_programs, reads_in

BIG = 10 ** 30
MANY = read_program("for i from 0 below n:\n t[i] = 1 + a[i]\n u[2 * i] = 2\n v[i] = 1\n c[i] = t[i] + v[0 * i]\n"
                    "for i from 0 below n by 2 down:\n b[i] = t[i - 1] + u[2 * i]\n s[i] = 1 + s[i + 4] + s[i + 6]\n"
                    "for i from 1 below n:\n d[i] = v[i] + t[i]\n")
WIDE = read_program("for i from 0 below 13:\n t[0] = 1\nfor i from 0 below n by 13:\n t[11 * i + 999] = 1\n"
                    "for i from 0 below n by 16:\n t[12 * i + 999] = 1\nfor i from 0 below n by 11:\n t[7 * i + 998] = 1\n"
                    "for i from 0 below 1:\n b[0] = t[0]\n")
PERIOD = ("for i from 0 below n:\n if i mod 3 == 0: x[i] = 1\n if (i + n) mod 4 == 1: y[i] = 1\nfor i from 0 below n by 11:\n x[i] = 1\n"
          "for i from 0 below n by 7:\n x[i] = 1\n")


class ReportsTest(unittest.TestCase):
    def test_arrays_of_all_kinds(self):
        told = report_of(MANY)
        self.assertIsInstance(told, Report)
        self.assertEqual(told.arrays, (("a", 0), ("b", 1), ("c", 1), ("d", 1), ("s", 0), ("t", 0), ("u", None), ("v", None)))
        self.assertEqual(told.loops, ((1, 1), (2, 1), (0, 0)))
        self.assertEqual(told.reads, (((0, 0, 0), ()), ((0, 3, 0), ((0, 0),)), ((0, 3, 1), ((0, 2),)), ((1, 0, 0), ((0, 0),)),
                                      ((1, 0, 1), ((0, 1),)), ((1, 1, 0), ((1, 1),)), ((1, 1, 1), ((1, 1),)), ((2, 0, 0), ((0, 2),)),
                                      ((2, 0, 1), ((0, 0),))))
        self.assertEqual(told.cell, (1, 1, 0, 0, 0))
        self.assertEqual([told.works(n) for n in (1, 5, BIG)], [6, 30, 6 * BIG - 1])

    def test_text(self):
        self.assertEqual(report_text(report_of(MANY)), "\n".join([
            "loop 0: gap 1, lanes 1", "loop 1: gap 2, lanes 1", "loop 2: gap 0, lanes 0", "array a: not kept between", "array b: 1",
            "array c: 1", "array d: 1", "array s: not kept between", "array t: not kept between", "array u: no number",
            "array v: no number", "read 0 0 0: from input alone", "read 0 3 0: from 0 0", "read 0 3 1: from 0 2",
            "read 1 0 0: from 0 0", "read 1 0 1: from 0 1", "read 1 1 0: from 1 1", "read 1 1 1: from 1 1", "read 2 0 0: from 0 2",
            "read 2 0 1: from 0 0", ""]))
        two = read_program("for i from 0 below n:\n x[i] = 1\nfor i from 1 below n by 3:\n x[i] = 1 + x[i - 1] + x[5 - i]\n"
                           "for i from 0 below n:\n y[i] = x[i]\n")
        self.assertEqual(report_text(report_of(two)).split("\n")[-4:-1],
                         ["read 1 0 0: from 0 0", "read 1 0 1: from 0 0, 1 0", "read 2 0 0: from 0 0, 1 0"])
        self.assertEqual(report_text(report_of(read_program(""))), "")
        self.assertEqual(report_text(report_of(read_program("for i from 5 below n:\n"))), "loop 0: gap 0, lanes 0\n")

    def test_reports_gather_what_the_parts_tell(self):
        many = 0
        for program in random_programs(351, 25):
            told = or_error(report_of, program)
            if isinstance(told, str):
                self.assertIn(told, ("TooFar",))
                continue
            many += 1
            self.assertTrue(told.works == formula_of(work_totals(program)))
            self.assertEqual(told.loops, tuple((least_gap(program, loop), lanes(program, loop)) for loop in range(len(program.loops))))
            folds = []
            for array in program.arrays:
                fold = or_error(fold_least, program, array)
                folds.append((array, 0 if fold == "NotKept" else fold))
            self.assertEqual(told.arrays, tuple(folds), program_text(program))
            self.assertEqual(told.reads, tuple((read, sources_of(program, read)) for read in reads_in(program)))
            self.assertEqual(told.cell, bad_cell(program))
        self.assertGreater(many, 15)

    def test_errors_are_raised_on(self):
        with self.assertRaises(TooFar) as caught:
            report_of(read_program(PERIOD))
        self.assertEqual(vars(caught.exception), {"what": "period", "limit": 60})
        for program, error in ((WIDE, "TooFar"), (read_program(PERIOD), "TooFar")):
            self.assertEqual(or_error(report_of, program), error)
        with self.assertRaises(TooFar) as caught:
            formula_of(work_totals(WIDE))
        self.assertEqual((caught.exception.what, caught.exception.limit), ("period", 60))
        # Here the works have a formula, and what is raised is of the fold; of those of array a it is caught.
        folded = read_program("for i from 0 below 1:\n t[0] = a[0]\nfor i from 0 below n:\n t[12 * i + 12] = 1\n t[11 * i + 11] = 1\n"
                              " t[7 * i + 7] = 1\n t[5 * i + 5] = 1\nfor i from 0 below 1:\n b[0] = t[0]\n")
        self.assertEqual(formula_of(work_totals(folded)).rows, ((2, 4),))
        with self.assertRaises(TooFar) as caught:
            report_of(folded)
        self.assertEqual(vars(caught.exception), {"what": "period", "limit": 2048})
        self.assertTrue(issubclass(TooFar, LoopError))


if __name__ == "__main__":
    unittest.main()
