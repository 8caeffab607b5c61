"""[51] to [54]: what a rewriting loses, what it turns about, and whether the flow is the same."""

import collections
import unittest

from loopsize.errors import NotWhole
from loopsize.orders import is_let, is_whole, lost_work, turned_pair
from loopsize.rewriting import cut_loop, deal_loop, join_loops, no_rewriting, split_loop, swap_loops, swap_statements
from loopsize.rewriting import turn_loop, unroll_loop
from loopsize.runs import first_difference, log_program, run_program, works_of
from loopsize.sameflow import has_same_flow, unlike_flow
from loopsize.spaces import turns_differ
from loopsize.straights import Straight
from loopsize.texts import program_text, read_place, read_program
from tests.samples import accesses_of, random_programs
from tests.test_flows import MORE
from tests.test_rewriting import some_rewritings

BIG = 10 ** 30
SIZES = range(6)
TWO = read_program("for i from 0 below n:\n a[i] = 1 + 2 * b[i]\nfor i from 0 below n:\n c[i] = a[i] + 3 * a[i + 1]")
SUMS = read_program("for i from 0 below 2 * n:\n s[0] = s[0] + x[i]")
THRICE = read_program("for i from 0 below n:\n x[0] = 1\n x[0] = 2\n x[0] = 3")


def plain_lost(rewriting, n):
    """The first tuple of the program before that is lost at a size, or None."""
    loops = rewriting.before.loops
    works = works_of(rewriting.before, n)
    stood = collections.Counter(rewriting.origin(work) for work in works_of(rewriting.after, n))
    lost = [work for work in works if stood[work] != 1] + [work for work in stood if work not in works]
    return min(lost, key=lambda work: (work[0], -work[1] if loops[work[0]].down else work[1], work[2]), default=None)


def plain_turned(rewriting, n):
    """The first two works that meet and change places at a size, or None."""
    works = works_of(rewriting.before, n)
    place = {rewriting.origin(work): at for at, work in enumerate(works_of(rewriting.after, n))}
    touched = {work: accesses_of(rewriting.before, work, n) for work in works}
    for at, first in enumerate(works):
        for second in works[at + 1:]:
            meet = touched[first][-1] in touched[second] or touched[second][-1] in touched[first]
            if meet and place[second] < place[first]:
                return first, second
    return None


def plain_unlike(rewriting, n):
    """What comes first at a size that flows in another way, or None."""
    one, other = log_program(rewriting.before, n), log_program(rewriting.after, n)
    taken = {rewriting.origin(work): parts for work, parts in zip(other.works, other.takes)}
    for work, parts in zip(one.works, one.takes):
        for read, (_, _, source) in enumerate(parts):
            there = taken[work][read][2]
            if source != (there and rewriting.origin(there)):
                return work, read
    for work, write in zip(one.works, one.writes):
        if (one.last_writer(*write) == work) != (rewriting.origin(other.last_writer(*write)) == work):
            return work, None
    return None


class OrdersTest(unittest.TestCase):
    def agree(self, told, plain, rewriting):
        """What is told for all sizes, against what is plainly so at small ones."""
        shown = program_text(rewriting.before) + program_text(rewriting.after)
        for n in SIZES:
            found = plain(rewriting, n)
            if found is not None:
                whole = (n, found) if plain is plain_lost else (n, *found)
                self.assertEqual(told, whole, shown)
                return
        if told is not None:
            self.assertGreaterEqual(told[0], len(SIZES), shown)

    def check(self, rewriting):
        lost = lost_work(rewriting)
        self.agree(lost, plain_lost, rewriting)
        self.assertIs(is_whole(rewriting), lost is None)
        if lost is not None:
            for function in (turned_pair, unlike_flow):
                with self.assertRaises(NotWhole) as caught:
                    function(rewriting)
                self.assertEqual((caught.exception.n, caught.exception.work), lost)
            self.assertEqual([is_let(rewriting), has_same_flow(rewriting)], [False, False])
            return "lost"
        turned, unlike = turned_pair(rewriting), unlike_flow(rewriting)
        self.agree(turned, plain_turned, rewriting)
        self.agree(unlike, plain_unlike, rewriting)
        self.assertIs(is_let(rewriting), turned is None)
        self.assertIs(has_same_flow(rewriting), unlike is None)
        if unlike is not None:
            return "unlike"
        start = [("x", 1, 77), ("y", 2, 5)]
        for n in (3, 6):
            one = run_program(rewriting.before, n, start=start)
            self.assertIsNone(first_difference(one, run_program(rewriting.after, n, start=start)))
        return "let" if turned is None else "same"

    def test_examples(self):
        self.assertEqual([lost_work(join_loops(TWO, 0)), turned_pair(join_loops(TWO, 0)), turned_pair(swap_loops(TWO, 0))],
                         [None, (2, (0, 1, 0), (1, 0, 0)), (1, (0, 0, 0), (1, 0, 0))])
        self.assertEqual([unlike_flow(join_loops(TWO, 0)), is_let(turn_loop(TWO, 0)), is_let(deal_loop(TWO, 1, 2))],
                         [(2, (1, 0, 0), 1), True, True])
        self.assertEqual([lost_work(unroll_loop(TWO, 0, 2)), lost_work(cut_loop(TWO, 0, read_place("n // 2"))),
                          lost_work(cut_loop(TWO, 0, read_place("n + 1")))], [(1, (0, 1, 0)), None, (0, (0, 0, 0))])
        pairs = unroll_loop(SUMS, 0, 2)
        self.assertEqual([is_let(pairs), turned_pair(turn_loop(SUMS, 0)), unlike_flow(turn_loop(SUMS, 0))],
                         [True, (1, (0, 0, 0), (0, 1, 0)), (1, (0, 0, 0), 0)])
        self.assertEqual([turned_pair(swap_statements(THRICE, 0, 0)), has_same_flow(swap_statements(THRICE, 0, 0)),
                          unlike_flow(swap_statements(THRICE, 0, 1))],
                         [(1, (0, 0, 0), (0, 0, 1)), True, (1, (0, 0, 1), None)])

    def test_rewritings_by_chance(self):
        kinds = collections.Counter()
        for program in random_programs(91, 12):
            for rewriting in some_rewritings(program):
                kinds[self.check(rewriting)] += 1
        self.assertEqual(sorted(kinds), ["let", "lost", "same", "unlike"])

    def test_rewritings_one_behind_the_other(self):
        kinds = collections.Counter()
        for program in random_programs(92, 6, arrays="xy", most_loops=2, most_statements=2):
            for first in some_rewritings(program)[::3]:
                for second in some_rewritings(first.after)[::4]:
                    both = first.then(second)
                    kinds[self.check(both)] += 1
                    if is_whole(first) and is_whole(second):
                        self.assertTrue(is_whole(both))
                    if is_let(first) and is_let(second):
                        self.assertTrue(is_let(both))
        self.assertGreater(kinds["let"], 5)

    def test_rewritings_of_some_programs(self):
        for text in MORE[2:]:
            for rewriting in some_rewritings(read_program(text)):
                self.check(rewriting)

    def test_what_is_whole_always(self):
        for program in random_programs(93, 25):
            for loop, body in enumerate(program.loops):
                made = [no_rewriting(program), turn_loop(program, loop)]
                made += [swap_loops(program, loop)] if loop + 1 < len(program.loops) else []
                made += [swap_statements(program, loop, 0), split_loop(program, loop, 1)] if len(body.statements) > 1 else []
                if len(program.loops) < 4 and all(len(statement.conditions) < 3 for statement in body.statements):
                    made.append(deal_loop(program, loop, 3))
                for rewriting in made:
                    self.assertTrue(is_whole(rewriting), program_text(program))
            self.assertTrue(is_let(no_rewriting(program)))

    def test_joined_loops_are_whole_if_their_turns_are_the_same(self):
        told = []
        for program in random_programs(94, 80):
            for loop in range(len(program.loops) - 1):
                one, other = program.loops[loop], program.loops[loop + 1]
                if (one.step, one.down) == (other.step, other.down):
                    same = turns_differ(program, loop, program, loop + 1) is None
                    told.append(same)
                    if same:
                        self.assertTrue(is_whole(join_loops(program, loop)))
        self.assertIn(False, told)
        idle = read_program("for i from 0 below n:\n x[i] = 1\nfor i from 1 below n:\n if i >= n: y[i] = 1\n")
        self.assertTrue(is_whole(join_loops(idle, 0)))

    def test_conditions_may_make_it_whole(self):
        late = read_program("for i from 0 below n:\n if n mod 2 == 0: x[i] = 1\n")
        self.assertTrue(is_let(unroll_loop(late, 0, 2)))
        self.assertEqual(lost_work(unroll_loop(late, 0, 3)), (2, (0, 2, 0)))
        down = read_program("for i from 0 below n down:\n if n mod 2 == 0: x[i] = x[i + 1]\n")
        self.assertTrue(is_let(unroll_loop(down, 0, 2)))
        self.assertEqual(lost_work(unroll_loop(down, 0, 4)), (2, (0, 3, 0)))
        steps = read_program("for i from 0 below 3 * n by 3:\n x[i] = x[i - 3]\n")
        self.assertIsNone(lost_work(cut_loop(steps, 0, 0)))
        self.assertEqual(lost_work(cut_loop(steps, 0, Straight(0, 1, 0))), (1, (0, 1, 0)))

    def test_what_comes_late(self):
        late = read_program("for i from 0 below n:\n if i <= 700: x[i] = 1\nfor i from 0 below n:\n y[i] = x[i + 650]\n")
        self.assertEqual(turned_pair(join_loops(late, 0)), (651, (0, 650, 0), (1, 0, 0)))
        self.assertEqual(unlike_flow(join_loops(late, 0)), (651, (1, 0, 0), 0))
        self.assertEqual(lost_work(cut_loop(late, 0, 999)), (0, (0, 0, 0)))
        far = read_program("for i from n below 2 * n + 1:\n x[i] = 1\nfor i from 900 below 2 * n + 1:\n x[n - i] = 2\n")
        self.assertIsNone(turned_pair(swap_loops(far, 0)))
        over = read_program("for i from 500 below n:\n x[0] = 1\nfor i from 0 below n:\n if i mod 3 == 2: x[n - i] = x[i]\n")
        told = swap_loops(over, 0)
        self.assertIsNone(turned_pair(told))
        read = read_program("for i from 500 below n:\n x[0] = 1\nfor i from 0 below n:\n if n mod 3 == 0: y[i] = x[i]\n")
        self.assertEqual(turned_pair(swap_loops(read, 0)), (501, (0, 500, 0), (1, 0, 0)))
        self.assertEqual(unlike_flow(swap_loops(read, 0)), (501, (1, 0, 0), 0))

    def test_the_first_works_in_loops_with_down(self):
        down = read_program("for i from 0 below n by 2 down:\n x[0] = x[0] + 1\n y[i] = 1\n")
        self.assertEqual(turned_pair(turn_loop(down, 0)), (3, (0, 2, 0), (0, 0, 0)))
        self.assertEqual(unlike_flow(turn_loop(down, 0)), (3, (0, 2, 0), 0))
        self.assertEqual(lost_work(unroll_loop(down, 0, 2)), (1, (0, 2, 0)))
        three = read_program("for i from 0 below n:\n x[i] = 1\nfor i from 0 below 5 down:\n z[0] = 1\n" + "for i from n below 2 * n:\n")
        self.assertEqual(turned_pair(turn_loop(three, 1)), (0, (1, 4, 0), (1, 3, 0)))
        self.assertEqual(unlike_flow(turn_loop(three, 1)), (0, (1, 4, 0), None))

    def test_let_is_more_than_the_same_flow(self):
        told = swap_statements(THRICE, 0, 0)
        self.assertEqual([is_let(told), has_same_flow(told)], [False, True])
        for n in (0, 1, 5):
            self.assertIsNone(first_difference(run_program(told.before, n), run_program(told.after, n)))
        reads = read_program("for i from 0 below n:\n y[i] = x[0]\nfor i from 0 below n down:\n z[i] = x[0] + x[i]\n")
        self.assertTrue(is_let(swap_loops(reads, 0)))

    def test_empty_programs(self):
        for text in ("", "for i from 0 below n:\n", "for i from 5 below 2:\n x[0] = x[0]\n"):
            told = no_rewriting(read_program(text))
            self.assertEqual([lost_work(told), turned_pair(told), unlike_flow(told), is_let(told), has_same_flow(told)],
                             [None, None, None, True, True])
        self.assertTrue(is_let(turn_loop(read_program("for i from 5 below 2:\n x[0] = x[0]\n"), 0)))
        self.assertTrue(is_let(cut_loop(read_program("for i from 0 below n:\n"), 0, Straight(0, 3, 5))))


if __name__ == "__main__":
    unittest.main()
