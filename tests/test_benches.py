"""[71] to [75]: deeds, papers, benches and their pages."""

import random
import unittest

from loopsize.benches import Bench, Paper, judged, page_text, rewriting_by
from loopsize.errors import AtEnd, AtStart, BadDeed, BadGrade, BadMany, BadName, BadNumber, LoopError, NoLoop, NoProgram
from loopsize.errors import NoStatement, NotInOrder, NotSameFlow, NotWhole, TakenName, TooFar, Unlike
from loopsize.orders import is_let, lost_work, turned_pair
from loopsize.programs import same_programs
from loopsize.reports import report_of, report_text
from loopsize.rewriting import Rewriting, cut_loop, deal_loop, join_loops, split_loop, swap_loops, swap_statements, turn_loop, unroll_loop
from loopsize.runs import first_difference, run_program
from loopsize.sameflow import has_same_flow, unlike_flow
from loopsize.straights import Place, Straight
from loopsize.texts import program_text, read_place, read_program
from loopsize.works import count_works, work_at
from tests.samples import or_error, random_programs

BIG = 10 ** 30
N = Straight(0, 1, 0)
TWO = read_program("for i from 0 below n:\n t[i] = 1 + 2 * a[i]\nfor i from 0 below n:\n b[i] = t[i] + 3\n")
SUMS = read_program("for i from 0 below n:\n s[0] = s[0] + a[i]\n x[0] = 1\n x[0] = 2\n")
THRICE = read_program("for i from 0 below n:\n x[0] = 1\n x[0] = 2\n x[0] = 3\n")
FUNCTIONS = {"swap_loops": swap_loops, "swap_statements": swap_statements, "turn_loop": turn_loop, "join_loops": join_loops,
             "split_loop": split_loop, "cut_loop": cut_loop, "deal_loop": deal_loop, "unroll_loop": unroll_loop}
NO_DEEDS = ((), [], ["turn_loop", 0], "turn_loop", None, 0, True, ("turn_loop",), ("turn_loop", 0, 0), ("swap_loops",), ("swap_loops", 0, 1),
            ("swap_statements", 0), ("split_loop", 0), ("cut_loop", 0), ("deal_loop", 0), ("unroll_loop", 0, 2, 2), ("no_rewriting", 0),
            ("Turn_loop", 0), ("", 0), (None, 0), (0, 0), (["turn_loop"], 0), ({}, 0), (("turn_loop", 0),), {"turn_loop": 0}, 1.5, object())
NO_NAMES = ("", "a" * 21, "A", "a1", "a b", "a_b", "a\n", None, 0, True, ("a",), ["a"], {}, b"a", 1.0)


def bench_with(**programs):
    bench = Bench()
    for name, program in programs.items():
        bench.put_program(name, program)
    return bench


def random_deed(chance, program):
    loop = chance.randrange(len(program.loops) + 1)
    name = chance.choice(sorted(FUNCTIONS))
    if name in ("swap_loops", "turn_loop", "join_loops"):
        return name, loop
    if name == "cut_loop":
        return name, loop, chance.choice([N // 2, 3, N - 1, Straight(0, 0, 0)])
    return name, loop, chance.choice([0, 1, 2, 2, 3])


def state_of(bench, name):
    """What the bench tells of a program."""
    papers = tuple((paper.deed, paper.grade, paper.turned) for paper in bench.papers_of(name))
    rewriting = bench.rewriting_of(name)
    return (program_text(bench.first_of(name)), program_text(bench.program_of(name)), papers, rewriting.origins,
            program_text(rewriting.before), program_text(rewriting.after), bench.all_names())


class DeedsTest(unittest.TestCase):
    def test_deeds_of_all_kinds(self):
        program = read_program("for i from 0 below n:\n x[i] = 1\n y[i] = 2\nfor i from 0 below n:\n z[i] = x[i]\n")
        for deed in (("swap_loops", 0), ("swap_statements", 0, 0), ("turn_loop", 1), ("join_loops", 0), ("split_loop", 0, 1),
                     ("cut_loop", 1, N // 2), ("cut_loop", 0, 5), ("cut_loop", 0, Straight(0, 1, -1)), ("deal_loop", 0, 3), ("unroll_loop", 1, 2)):
            told = rewriting_by(program, deed)
            plain = FUNCTIONS[deed[0]](program, *deed[1:])
            self.assertIsInstance(told, Rewriting)
            self.assertTrue(same_programs(told.after, plain.after) and told.before is program)
            self.assertEqual(told.origins, plain.origins)

    def test_no_deeds(self):
        bench = bench_with(two=TWO)
        for value in NO_DEEDS:
            for call in (lambda: rewriting_by(TWO, value), lambda: judged(TWO, value), lambda: bench.do_deed("two", value),
                         lambda: bench.do_deed("two", value, grade="flow")):
                with self.assertRaises(BadDeed) as caught:
                    call()
                self.assertIs(caught.exception.deed, value)

    def test_errors_of_deeds(self):
        up = read_program("for i from 0 below n:\n x[i] = 1\nfor i from 0 below n down:\n x[i] = 2\n")
        bench = bench_with(up=up)
        for deed, error in ((("turn_loop", 2), NoLoop), (("turn_loop", "0"), NoLoop), (("swap_loops", 1), NoLoop), (("join_loops", 1), NoLoop),
                            (("join_loops", 0), Unlike), (("swap_statements", 0, 0), NoStatement), (("split_loop", 0, 0), NoStatement),
                            (("deal_loop", 0, 5), BadMany), (("unroll_loop", 0, 1), BadMany), (("unroll_loop", 0, None), BadMany),
                            (("cut_loop", 0, Straight(1, 0, 0)), BadNumber), (("cut_loop", 0, Straight(0, 4, 0)), BadNumber)):
            for call in (lambda: rewriting_by(up, deed), lambda: judged(up, deed), lambda: bench.do_deed("up", deed)):
                with self.assertRaises(error):
                    call()
        self.assertEqual(bench.papers_of("up"), ())

    def test_papers(self):
        told = judged(TWO, ("join_loops", 0))
        self.assertIsInstance(told, Paper)
        self.assertEqual(vars(told), {"deed": ("join_loops", 0), "grade": "order", "turned": None})
        told = judged(THRICE, ("swap_statements", 0, 0))
        self.assertEqual(vars(told), {"deed": ("swap_statements", 0, 0), "grade": "flow", "turned": (1, (0, 0, 0), (0, 0, 1))})
        with self.assertRaises(NotWhole) as caught:
            judged(TWO, ("cut_loop", 0, N + 1))
        self.assertEqual(vars(caught.exception), {"n": 0, "work": (0, 0, 0)})
        with self.assertRaises(NotSameFlow) as caught:
            judged(THRICE, ("swap_statements", 0, 1))
        self.assertEqual(vars(caught.exception), {"n": 1, "work": (0, 0, 1), "read": None})
        with self.assertRaises(NotSameFlow) as caught:
            judged(SUMS, ("turn_loop", 0))
        self.assertEqual(vars(caught.exception), {"n": 2, "work": (0, 0, 0), "read": 0})
        made = Paper(("turn_loop", 0), "flow", (1, 2, 3))
        self.assertEqual(vars(made), {"deed": ("turn_loop", 0), "grade": "flow", "turned": (1, 2, 3)})

    def test_judgements_are_what_the_parts_tell(self):
        chance = random.Random(361)
        met = set()
        lost = read_program("for i from 0 below n:\n x[i] = 1\n x[i + 1] = 2\nfor i from 0 below n + 1:\n x[i] = 3\n")
        cases = [(program, random_deed(chance, program)) for program in random_programs(361, 300)]
        cases += [(program, random_deed(chance, program)) for program in [THRICE, lost] * 20]
        for program, deed in cases:
            rewriting = or_error(rewriting_by, program, deed)
            told = or_error(judged, program, deed)
            if isinstance(rewriting, str):
                self.assertEqual(told, rewriting)
                met.add("error")
            elif lost_work(rewriting) is not None:
                self.assertEqual(told, "NotWhole")
                met.add(told)
            elif is_let(rewriting):
                self.assertEqual((told.deed, told.grade, told.turned), (deed, "order", None))
                met.add("order")
            elif has_same_flow(rewriting):
                self.assertEqual((told.deed, told.grade, told.turned), (deed, "flow", turned_pair(rewriting)))
                met.add("flow")
            else:
                with self.assertRaises(NotSameFlow) as caught:
                    judged(program, deed)
                error = caught.exception
                self.assertEqual((error.n, error.work, error.read), unlike_flow(rewriting))
                met.add("unlike")
        self.assertEqual(met, {"error", "NotWhole", "order", "flow", "unlike"})


class BenchTest(unittest.TestCase):
    def test_examples(self):
        bench = bench_with(two=TWO)
        before = report_of(bench.program_of("two"))
        self.assertEqual([before.works.rows, before.loops, before.arrays, before.reads, before.cell],
                         [((0, 2),), ((0, 0), (0, 0)), (("a", 0), ("b", 1), ("t", None)), (((0, 0, 0), ()), ((1, 0, 0), ((0, 0),))), None])
        paper = bench.do_deed("two", ("join_loops", 0))
        self.assertEqual([paper.deed, paper.grade, paper.turned, report_of(bench.program_of("two")).arrays],
                         [("join_loops", 0), "order", None, (("a", 0), ("b", 1), ("t", 1))])
        self.assertEqual(page_text(bench, "two"), "two\nfor i from 0 below n:\n    t[i] = 1 + 2 * a[i]\n    b[i] = 3 + t[i]\n"
                         "deed join_loops 0: order\nloop 0: gap 0, lanes 0\narray a: not kept between\narray b: 1\narray t: 1\n"
                         "read 0 0 0: from input alone\nread 0 1 0: from 0 0\n")
        bench.put_program("sums", SUMS)
        with self.assertRaises(NotInOrder) as caught:
            bench.do_deed("sums", ("turn_loop", 0))
        self.assertEqual(vars(caught.exception), {"n": 2, "first": (0, 0, 0), "second": (0, 1, 0)})
        with self.assertRaises(NotSameFlow) as caught:
            bench.do_deed("sums", ("turn_loop", 0), grade="flow")
        self.assertEqual(vars(caught.exception), {"n": 2, "work": (0, 0, 0), "read": 0})
        bench.put_program("thrice", THRICE)
        self.assertEqual([bench.do_deed("thrice", ("swap_statements", 0, 0), grade="flow").turned, len(bench.papers_of("thrice"))],
                         [(1, (0, 0, 0), (0, 0, 1)), 1])
        self.assertEqual([first_difference(run_program(bench.first_of("two"), 7), run_program(bench.program_of("two"), 7)), bench.all_names()],
                         [None, ("sums", "thrice", "two")])
        now = bench.program_of("two")
        self.assertEqual([count_works(now, BIG) == 2 * BIG, bench.rewriting_of("two").origin(work_at(now, BIG, BIG + 1)) == (1, 5 * 10 ** 29, 0)],
                         [True, True])

    def test_names(self):
        bench = Bench()
        self.assertEqual([bench.all_names(), "a" in bench], [(), False])
        for name in ("a", "b" * 20, "for", "n", "mod"):
            self.assertIsNone(bench.put_program(name, TWO))
            self.assertIs(name in bench, True)
        self.assertEqual(bench.all_names(), ("a", "b" * 20, "for", "mod", "n"))
        for value in NO_NAMES:
            self.assertIs(value in bench, False)
            with self.assertRaises(BadName) as caught:
                bench.put_program(value, TWO)
            self.assertIs(caught.exception.name, value)
            with self.assertRaises(BadName) as caught:
                bench.copy_program("a", value)
            self.assertIs(caught.exception.name, value)
        for name in ("a", "n"):
            for call in (lambda: bench.put_program(name, SUMS), lambda: bench.copy_program("a", name)):
                with self.assertRaises(TakenName) as caught:
                    call()
                self.assertEqual(caught.exception.name, name)
        self.assertIs(bench.program_of("a"), TWO)
        self.assertIsNone(bench.drop_program("n"))
        self.assertEqual(["n" in bench, bench.all_names()], [False, ("a", "b" * 20, "for", "mod")])
        bench.put_program("n", SUMS)
        self.assertTrue(bench.first_of("n") is SUMS and bench.program_of("n") is SUMS)

    def test_programs_that_are_not_there(self):
        bench = bench_with(two=TWO)
        for value in (*NO_NAMES, "twos", "tw", "b"):
            for call in (lambda: bench.drop_program(value), lambda: bench.first_of(value), lambda: bench.program_of(value),
                         lambda: bench.papers_of(value), lambda: bench.rewriting_of(value), lambda: bench.do_deed(value, None, grade=0),
                         lambda: bench.undo_deed(value), lambda: bench.redo_deed(value), lambda: bench.copy_program(value, "A"),
                         lambda: bench.copy_program(value, "two"), lambda: page_text(bench, value)):
                with self.assertRaises(NoProgram) as caught:
                    call()
                self.assertIs(caught.exception.name, value)

    def test_grades_and_their_place(self):
        bench = bench_with(two=TWO, sums=SUMS, thrice=THRICE)
        for value in ("", "Order", "strict", None, 0, True, ("order",), ["flow"], {}):
            for deed in (("join_loops", 0), None, ("cut_loop", 0, N + 1)):
                with self.assertRaises(BadGrade) as caught:
                    bench.do_deed("two", deed, grade=value)
                self.assertIs(caught.exception.grade, value)
        for grade in ("order", "flow"):
            with self.assertRaises(NotWhole) as caught:
                bench.do_deed("sums", ("cut_loop", 0, N + 1), grade=grade)
            self.assertEqual(vars(caught.exception), {"n": 0, "work": (0, 0, 0)})
        with self.assertRaises(NotInOrder):
            bench.do_deed("thrice", ("swap_statements", 0, 0))
        with self.assertRaises(TypeError):
            bench.do_deed("two", ("join_loops", 0), "flow")
        self.assertEqual(bench.do_deed("two", ("join_loops", 0), grade="flow").grade, "order")
        self.assertEqual(bench.do_deed(name="thrice", deed=("swap_statements", 0, 0), grade="flow").grade, "flow")
        self.assertEqual(bench.papers_of("sums"), ())

    def test_back_and_forth(self):
        bench = bench_with(two=TWO)
        for call in (lambda: bench.undo_deed("two"), lambda: bench.redo_deed("two")):
            with self.assertRaises((AtStart, AtEnd)):
                call()
        with self.assertRaises(AtStart):
            bench.undo_deed("two")
        with self.assertRaises(AtEnd):
            bench.redo_deed("two")
        papers = [bench.do_deed("two", deed) for deed in (("join_loops", 0), ("turn_loop", 0), ("unroll_loop", 0, 2))[:2]]
        texts = [program_text(TWO), program_text(join_loops(TWO, 0).after), program_text(turn_loop(join_loops(TWO, 0).after, 0).after)]
        self.assertEqual(program_text(bench.program_of("two")), texts[2])
        self.assertEqual([program_text(bench.undo_deed("two")), len(bench.papers_of("two"))], [texts[1], 1])
        self.assertIs(bench.program_of("two"), bench.redo_deed("two") and bench.undo_deed("two"))
        self.assertEqual([program_text(bench.undo_deed("two")), bench.papers_of("two")], [texts[0], ()])
        self.assertIs(bench.program_of("two"), bench.first_of("two"))
        self.assertEqual([program_text(bench.redo_deed("two")), program_text(bench.redo_deed("two"))], texts[1:])
        self.assertTrue(all(one is other for one, other in zip(bench.papers_of("two"), papers)))
        with self.assertRaises(AtEnd):
            bench.redo_deed("two")
        bench.undo_deed("two")
        with self.assertRaises(NoLoop):
            bench.do_deed("two", ("swap_loops", 0))
        self.assertEqual(program_text(bench.redo_deed("two")), texts[2])
        bench.undo_deed("two")
        bench.do_deed("two", ("split_loop", 0, 1))
        with self.assertRaises(AtEnd):
            bench.redo_deed("two")
        self.assertEqual([paper.deed for paper in bench.papers_of("two")], [("join_loops", 0), ("split_loop", 0, 1)])

    def test_nothing_changes_where_an_error_is_raised(self):
        bench = bench_with(two=TWO, thrice=THRICE)
        bench.do_deed("two", ("join_loops", 0))
        bench.do_deed("two", ("turn_loop", 0))
        bench.undo_deed("two")
        before = [state_of(bench, name) for name in bench.all_names()]
        for call in (lambda: bench.do_deed("two", None), lambda: bench.do_deed("two", ("turn_loop", 0), grade="none"),
                     lambda: bench.do_deed("two", ("cut_loop", 0, N + 1)), lambda: bench.do_deed("two", ("swap_statements", 0, 0)),
                     lambda: bench.do_deed("thrice", ("swap_statements", 0, 1), grade="flow"), lambda: bench.put_program("two", SUMS),
                     lambda: bench.put_program("Two", SUMS), lambda: bench.copy_program("two", "thrice"), lambda: bench.copy_program("two", ""),
                     lambda: bench.drop_program("none"), lambda: bench.undo_deed("thrice"), lambda: bench.redo_deed("thrice")):
            with self.assertRaises(LoopError):
                call()
            self.assertEqual([state_of(bench, name) for name in bench.all_names()], before)
        self.assertTrue(same_programs(bench.redo_deed("two"), turn_loop(join_loops(TWO, 0).after, 0).after))

    def test_copies_go_ways_of_their_own(self):
        bench = bench_with(two=TWO)
        bench.do_deed("two", ("join_loops", 0))
        bench.do_deed("two", ("turn_loop", 0))
        bench.undo_deed("two")
        self.assertIsNone(bench.copy_program("two", "copy"))
        self.assertEqual(state_of(bench, "copy"), state_of(bench, "two"))
        self.assertTrue(bench.first_of("copy") is TWO and bench.papers_of("copy")[0] is bench.papers_of("two")[0])
        with self.assertRaises(AtEnd):
            bench.redo_deed("copy")
        bench.redo_deed("two")
        bench.undo_deed("copy")
        self.assertEqual([len(bench.papers_of("two")), len(bench.papers_of("copy"))], [2, 0])
        bench.redo_deed("copy")
        bench.drop_program("two")
        self.assertEqual([bench.all_names(), len(bench.papers_of("copy"))], [("copy",), 1])
        other = bench_with(copy=SUMS)
        self.assertEqual([len(other.papers_of("copy")), len(Bench().all_names())], [0, 0])
        self.assertTrue(same_programs(bench.program_of("copy"), join_loops(TWO, 0).after))

    def test_rows_of_deeds_against_a_plain_list(self):
        chance = random.Random(371)
        many = {"do": 0, "undo": 0, "redo": 0, "copy": 0}
        for program in random_programs(371, 60):
            bench = bench_with(a=program)
            plain = {"a": ([program], [])}
            for _ in range(14):
                name = chance.choice(sorted(plain))
                self.one_step(chance, bench, plain, name, many)
                for other, (stand, gone) in plain.items():
                    self.assertTrue(same_programs(bench.program_of(other), stand[-1]))
                    self.assertTrue(bench.first_of(other) is program)
                    self.assertEqual(len(bench.papers_of(other)), len(stand) - 1)
                self.assertEqual(bench.all_names(), tuple(sorted(plain)))
            for name in plain:
                self.check_facts(bench, name)
        self.assertTrue(all(number > 5 for number in many.values()), many)

    def one_step(self, chance, bench, plain, name, many):
        stand, gone = plain[name]
        kind = chance.choice(["do", "do", "do", "undo", "redo", "redo", "copy"])
        if kind == "do":
            deed = random_deed(chance, stand[-1])
            paper = or_error(lambda: bench.do_deed(name, deed, grade="flow"))
            if not isinstance(paper, str):
                stand.append(FUNCTIONS[deed[0]](stand[-1], *deed[1:]).after)
                gone.clear()
                many[kind] += 1
        elif kind == "undo" and len(stand) > 1:
            gone.append(stand.pop())
            self.assertTrue(same_programs(bench.undo_deed(name), stand[-1]))
            many[kind] += 1
        elif kind == "redo" and gone:
            stand.append(gone.pop())
            self.assertTrue(same_programs(bench.redo_deed(name), stand[-1]))
            many[kind] += 1
        elif kind == "copy" and len(plain) < 3:
            other = "abc"[len(plain)]
            bench.copy_program(name, other)
            plain[other] = (list(stand), [])
            many[kind] += 1

    def check_facts(self, bench, name):
        first, now = bench.first_of(name), bench.program_of(name)
        rewriting = bench.rewriting_of(name)
        self.assertTrue(rewriting.before is first and same_programs(rewriting.after, now))
        self.assertTrue(has_same_flow(rewriting), program_text(first))
        if all(paper.grade == "order" for paper in bench.papers_of(name)):
            self.assertTrue(is_let(rewriting))
        for n in (1, 6):
            self.assertIsNone(first_difference(run_program(first, n), run_program(now, n)))
        self.assertTrue(same_programs(read_program(program_text(now)), now))


class PagesTest(unittest.TestCase):
    def test_places_of_all_kinds(self):
        program = read_program("for i from 0 below 3 * n:\n x[i] = 1\n")
        for place, text in ((Straight(0, 1, 0), "n"), (Place(N + 1, 2), "(n + 1) // 2"), (7, "7"), (Straight(0, 0, 7), "7"),
                            (N // 3, "n // 3"), (2 * N - 1, "2 * n - 1"), (Place(2 * N + 4, 2), "n + 2"), (Straight(0, 0, 0), "0"),
                            (read_place("(2 * n) // 3"), "2 * n // 3")):
            bench = bench_with(p=program)
            told = or_error(lambda: bench.do_deed("p", ("cut_loop", 0, place)))
            if told == "NotWhole":
                bench = bench_with(p=read_program("for i from 0 below 2 * n + 20:\n x[i] = 1\n"))
                bench.do_deed("p", ("cut_loop", 0, place))
            self.assertIn("\ndeed cut_loop 0 {}: order\n".format(text), page_text(bench, "p"))

    def test_pages_with_deeds_of_all_kinds(self):
        bench = bench_with(thrice=THRICE)
        bench.do_deed("thrice", ("swap_statements", 0, 0), grade="flow")
        bench.do_deed("thrice", ("split_loop", 0, 2), grade="flow")
        bench.do_deed("thrice", ("deal_loop", 0, 2), grade="flow")
        bench.do_deed("thrice", ("swap_loops", 0), grade="flow")
        bench.do_deed("thrice", ("turn_loop", 0), grade="flow")
        now = bench.program_of("thrice")
        self.assertEqual(page_text(bench, "thrice"), "thrice\n" + program_text(now) + "deed swap_statements 0 0: flow\ndeed split_loop 0 2: flow\n"
                         "deed deal_loop 0 2: flow\ndeed swap_loops 0: flow\ndeed turn_loop 0: flow\n" + report_text(report_of(now)))
        self.assertEqual(page_text(bench=bench_with(e=read_program("")), name="e"), "e\n")
        pairs = bench_with(q=read_program("for i from 0 below 2 * n:\n s[0] = s[0] + x[i]\n"))
        pairs.do_deed("q", ("unroll_loop", 0, 2))
        self.assertIn("deed unroll_loop 0 2: order\n", page_text(pairs, "q"))

    def test_errors_of_reports(self):
        far = read_program("for i from 0 below n by 11:\n x[i] = 1\nfor i from 0 below n by 7:\n x[i] = 1\n")
        with self.assertRaises(TooFar):
            page_text(bench_with(far=far), "far")


if __name__ == "__main__":
    unittest.main()
