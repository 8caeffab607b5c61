"""The interface: names, signatures, files; and the conventions of [2] and [76] that hold everywhere."""

import importlib
import inspect
import unittest

from loopsize import errors
from loopsize.benches import Bench, Paper
from loopsize.conditions import AtLeast, Rest
from loopsize.counts import count_of
from loopsize.digitsets import digit_set
from loopsize.formulas import count_from, formula_of
from loopsize.programs import Loop, Program, Read, Statement
from loopsize.reports import report_of
from loopsize.rewriting import turn_loop
from loopsize.runs import Stepper, log_program, run_program
from loopsize.straights import Place, Straight
from loopsize.texts import program_text, read_program

FUNCTIONS = {
    "digitsets": ["digit_set(arity, cases)", "both(a, b)", "either(a, b)", "without(a, b)", "others(a)",
                  "left_out(a, place)", "put_in(a, place, number)", "widened(a, place)", "reordered(a, places)",
                  "is_none(a)", "is_all(a)"],
    "members": ["least_of(a)", "next_of(a, low)", "is_finite(a)", "greatest_of(a)", "tail_of(a)"],
    "counts": ["count_of(s)", "sum_of(counts)", "composed(count, factor, shift)", "total_below(count)",
               "differs_at(a, b)"],
    "formulas": ["formula_of(count)", "count_from(early, rows)", "first_above(a, b)", "peak_of(count)"],
    "programs": ["same_programs(one, other)"],
    "texts": ["read_program(text)", "read_place(text)", "program_text(program)"],
    "runs": ["input_value(array, cell)", "run_program(program, n, *, start=())", "first_difference(one, other)",
             "log_program(program, n)"],
    "spaces": ["turn_set(program, loop)", "work_set(program, loop, statement)",
               "sizes_with_work(program, loop, statement)", "sizes_with_every_turn(program, loop, statement)",
               "turns_differ(first, first_loop, second, second_loop)", "bad_cell(program)"],
    "works": ["count_works(program, n)", "count_statement(program, n, loop, statement)", "work_at(program, n, number)",
              "number_of(program, n, work)", "next_work(program, n, number, loop, statement)",
              "last_work(program, n, number, loop, statement)", "work_totals(program)", "totals_differ(first, second)",
              "first_size_with(program, many)"],
    "pairs": ["same_cell(program, access, writer)", "ahead(program, one, other)"],
    "flows": ["takes(program, read, writer)", "takes_input(program, read)", "sources_of(program, read)",
              "readers_of(program, writer)"],
    "lasts": ["stays(program, writer)", "last_works(program, writer)", "untouched(program, array)",
              "last_at(program, n, array, cell, *, work=None)", "source_at(program, n, read, j)"],
    "unread": ["unread(program, writer)", "idle(program, writer)", "overwritten(program, writer, other)"],
    "rewriting": ["swap_loops(program, loop)", "swap_statements(program, loop, statement)", "turn_loop(program, loop)",
                  "join_loops(program, loop)", "split_loop(program, loop, statement)",
                  "cut_loop(program, loop, place)", "deal_loop(program, loop, many)",
                  "unroll_loop(program, loop, many)", "no_rewriting(program)"],
    "orders": ["lost_work(rewriting)", "is_whole(rewriting)", "turned_pair(rewriting)", "is_let(rewriting)"],
    "sameflow": ["unlike_flow(rewriting)", "has_same_flow(rewriting)"],
    "folding": ["fold_distances(program, name)", "fold_least(program, name)", "fold_is_right(program, name, m)",
                "fold_fails(program, name, m)"],
    "windows": ["window(program, name, n)", "window_pairs(program, name)", "fold_is_right_at(program, name, n, m)",
                "fold_least_at(program, name, n)"],
    "sharing": ["share_least(program, x, y)", "share_is_right(program, x, y, shift)",
                "share_fails(program, x, y, shift)"],
    "gaps": ["touching(program, loop)", "gaps(program, loop)", "gaps_at(program, loop, n)", "least_gap(program, loop)",
             "lanes(program, loop)", "least_gap_at(program, loop, n)", "lanes_at(program, loop, n)",
             "lane_pairs(program, loop)"],
    "together": ["conflicts(program, loop, grade, *, wanted=None)", "is_free(program, loop, grade, n, *, wanted=None)",
                 "fronts(program, loop, most)"],
    "lags": ["lag(program, loop)", "lag_at(program, loop, n)"],
    "paths": ["path(program, n, read, j)"],
    "origins": ["origins(program, read)", "contents(program, array)"],
    "moves": ["same_contents(first, second)", "forward(program, read, array, place)",
              "drop(program, loop, statement)"],
    "reports": ["report_of(program)", "report_text(report)"],
    "benches": ["rewriting_by(program, deed)", "judged(program, deed)", "page_text(bench, name)"],
}
CLASSES = {
    ("digitsets", "DigitSet"): ["__contains__(self, x)", "__eq__(self, other)"],
    ("counts", "Count"): ["__call__(self, n)", "__eq__(self, other)", "__add__(self, other)", "__radd__(self, other)",
                          "__sub__(self, other)", "__rsub__(self, other)", "__mul__(self, other)",
                          "__rmul__(self, other)", "__neg__(self)"],
    ("formulas", "Formula"): ["__call__(self, n)", "__eq__(self, other)"],
    ("straights", "Straight"): ["__init__(self, i, n, one)", "__call__(self, i, n)", "__eq__(self, other)",
                                "__add__(self, other)", "__radd__(self, other)", "__sub__(self, other)",
                                "__rsub__(self, other)", "__neg__(self)", "__mul__(self, other)",
                                "__rmul__(self, other)", "__floordiv__(self, other)", "replaced(self, factor, shift)"],
    ("straights", "Place"): ["__init__(self, straight, divisor)", "__call__(self, i, n)", "__eq__(self, other)",
                             "replaced(self, factor, shift)"],
    ("conditions", "AtLeast"): ["__init__(self, straight)", "holds(self, i, n)", "replaced(self, factor, shift)"],
    ("conditions", "Rest"): ["__init__(self, straight, modulus, rest)", "holds(self, i, n)",
                             "replaced(self, factor, shift)"],
    ("programs", "Read"): ["__init__(self, array, place, *, factor=1)"],
    ("programs", "Statement"): ["__init__(self, array, cell, constant, *, reads=(), conditions=())",
                                "is_done(self, i, n)"],
    ("programs", "Loop"): ["__init__(self, low, high, statements, *, step=1, down=False)", "many_turns(self, n)",
                           "counter_of(self, n, turn)", "turn_of(self, n, counter)", "least_counter(self, n)"],
    ("programs", "Program"): ["__init__(self, loops)"],
    ("runs", "Run"): ["value_of(self, array, cell)", "cells_of(self, array)"],
    ("runs", "Log"): ["last_writer(self, array, cell)", "term_of(self, work, depth)"],
    ("runs", "Stepper"): ["__init__(self, program, n, *, start=())", "many_done(self)", "next_work(self)",
                          "do_work(self)", "undo_work(self)", "go_to(self, many)", "value_of(self, array, cell)"],
    ("rewriting", "Rewriting"): ["then(self, other)", "origin(self, work)", "places(self, n, work)"],
    ("reports", "Report"): [],
    ("benches", "Paper"): ["__init__(self, deed, grade, turned)"],
    ("benches", "Bench"): ["put_program(self, name, program)", "drop_program(self, name)", "all_names(self)",
                           "__contains__(self, name)", "first_of(self, name)", "program_of(self, name)",
                           "papers_of(self, name)", "rewriting_of(self, name)",
                           "do_deed(self, name, deed, *, grade='order')", "undo_deed(self, name)",
                           "redo_deed(self, name)", "copy_program(self, name, other)"],
}
SMALL = "for i from 0 below n:\n a[i] = 1 + 2 * b[i]\n if i >= 1 and n mod 2 == 0: c[0] = a[i] - a[i // 2]\n"


def module(name):
    return importlib.import_module("loopsize." + name)


def things():
    """One of each kind of things that the package has."""
    below = digit_set(2, ((("least", (1, -1), 1),),))
    program = read_program(SMALL)
    statement = program.loops[0].statements[1]
    return [below, count_of(below), formula_of(count_of(below)), Straight(1, 2, 3), Place(Straight(1, 0, 0), 2),
            statement.conditions[0], statement.conditions[1], statement.reads[0], statement, program.loops[0], program,
            run_program(program, 2), log_program(program, 2), Stepper(program, 2), turn_loop(program, 0),
            errors.AtEnd(), report_of(program), Paper(("turn_loop", 0), "order", None), Bench()]


class InterfaceTest(unittest.TestCase):
    def test_functions(self):
        for name, signatures in FUNCTIONS.items():
            for told in signatures:
                function = getattr(module(name), told.split("(")[0])
                self.assertEqual(function.__name__ + str(inspect.signature(function)), told)
                self.assertEqual(function.__module__, "loopsize." + name)

    def test_classes_and_their_own_methods(self):
        for (name, own), methods in CLASSES.items():
            kind = getattr(module(name), own)
            self.assertEqual(kind.__module__, "loopsize." + name)
            for told in methods:
                method = vars(kind)[told.split("(")[0]]
                self.assertEqual(method.__name__ + str(inspect.signature(method)), told)

    def test_attributes_are_set_at_once(self):
        wanted = [
            ("arity", "rows", "ends", "states"), ("sections", "firsts", "rules"),
            ("rows", "period", "start", "early"), ("i", "n", "one"), ("straight", "divisor"), ("straight",),
            ("straight", "modulus", "rest"), ("array", "place", "factor"),
            ("array", "cell", "constant", "reads", "conditions"), ("low", "high", "statements", "step", "down"),
            ("loops", "arrays"), ("many_works",), ("works", "writes", "takes"), (),
            ("before", "after", "origins"), (), ("works", "loops", "arrays", "reads", "cell"),
            ("deed", "grade", "turned"), (),
        ]
        for thing, names in zip(things(), wanted):
            for name in names:
                self.assertIn(name, vars(thing), thing)


class ConventionsTest(unittest.TestCase):
    def test_nothing_is_equal_to_a_value_of_another_kind(self):
        made = things()
        for at, one in enumerate(made):
            for place, other in enumerate(made):
                if at != place:
                    self.assertIs(one == other, False)
                    self.assertIs(one != other, True)
            for value in (None, 0, 1, True, False, "", "a", (), [], {}, 1.0, b"", object(), vars(one)):
                self.assertIs(one == value, False)
                self.assertIs(value == one, False)
            self.assertIs(one == one, True)

    def test_truths_are_no_integers(self):
        below = digit_set(2, ((),))
        self.assertIs((True, 1) in below, False)
        count = count_of(digit_set(1, ((),)))
        with self.assertRaises(errors.BadNumber):
            count(True)
        with self.assertRaises(errors.BadSize):
            run_program(read_program(SMALL), True)

    def test_lists_in_the_place_of_tuples(self):
        tuples = digit_set(2, ((("least", (1, -1), 1), ("rest", (1, 0), 3, (0, 2))),))
        self.assertTrue(tuples == digit_set(2, [[["least", [1, -1], 1], ["rest", [1, 0], 3, [0, 2]]]]))
        self.assertTrue(count_from([1, 2], [[3], [4, 5]]) == count_from((1, 2), ((3,), (4, 5))))
        i = Straight(1, 0, 0)
        statement = Statement("a", i, 1, reads=(Read("b", i),), conditions=[AtLeast(i)])
        self.assertIsInstance(statement.reads, tuple)
        self.assertIsInstance(statement.conditions, tuple)
        program = Program((Loop(0, 5, (statement,)),))
        self.assertEqual(program_text(program), program_text(Program([Loop(0, 5, [statement])])))

    def test_equal_calls_tell_the_same(self):
        for _ in range(2):
            told = [count_of(digit_set(2, ((("least", (3, -2), 1),),))) for _ in range(2)]
            self.assertEqual((told[0].sections, told[0].rules), (told[1].sections, told[1].rules))
            self.assertEqual(program_text(read_program(SMALL)), program_text(read_program(SMALL)))
        run = run_program(read_program(SMALL), 4)
        self.assertEqual(run.cells_of("a"), run.cells_of("a"))

    def test_rests_and_places_of_integers(self):
        self.assertTrue(Rest(5, 2, 1).holds(0, 0))
        self.assertTrue(AtLeast(0).holds(0, 0))
        self.assertTrue(Read("a", 3).place == Place(3, 1))
        self.assertTrue(Loop(Straight(0, 1, 0), 7, []).low == Place(Straight(0, 1, 0), 1))


if __name__ == "__main__":
    unittest.main()
