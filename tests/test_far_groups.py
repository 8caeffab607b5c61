"""Questions of rewritings and of folds that are asked by the ten thousand: their answers by hand, and how long they take."""

import random
import time
import unittest
from math import gcd

from loopsize.folding import fold_fails, fold_is_right, fold_least
from loopsize.gaps import gaps_at, lanes_at, least_gap_at
from loopsize.lags import lag_at
from loopsize.orders import lost_work, turned_pair
from loopsize.paths import path
from loopsize.rewriting import cut_loop, deal_loop, join_loops, split_loop, swap_loops, turn_loop, unroll_loop
from loopsize.sameflow import unlike_flow
from loopsize.straights import Straight
from loopsize.texts import read_program
from loopsize.together import is_free
from loopsize.windows import fold_is_right_at, fold_least_at, window

SECONDS = 0.02
GROUPS = 300
N = Straight(0, 1, 0)
ONE = "for i from 0 below n:\n a[i] = 1\n"


def plus(number):
    return "+ {}".format(number) if number >= 0 else "- {}".format(-number)


def rewritings(c):
    """The rewritings that are asked three questions each, with the answers to two of these."""
    joined = read_program(ONE + "for i from 0 below n:\n c[i] = 1 + a[i + {}]\n".format(c))
    chain = read_program("for i from 0 below n:\n s[i] = 1 + s[i - {}]\n".format(c))
    split = read_program("for i from 0 below n:\n a[i] = 1 + b[i - {}]\n b[i] = 1\n".format(c))
    ahead = read_program("for i from 0 below n:\n a[i] = 1 + b[i + {}]\n b[i] = 1\n".format(c))
    swapped = read_program(ONE + "for i from 0 below 1:\n c[i] = 1 + a[i + {}]\n".format(c))
    dealt = ((c + 2, (0, 1, 0), (0, c + 1, 0)), (c + 2, (0, c + 1, 0), 0)) if c % 2 else (None, None)
    return ((join_loops(joined, 0), (c + 1, (0, c, 0), (1, 0, 0)), (c + 1, (1, 0, 0), 0)),
            (turn_loop(chain, 0), (c + 1, (0, 0, 0), (0, c, 0)), (c + 1, (0, c, 0), 0)),
            (deal_loop(chain, 0, 2), *dealt),
            (split_loop(split, 0, 1), (c + 1, (0, 0, 1), (0, c, 0)), (c + 1, (0, c, 0), 0)),
            (split_loop(ahead, 0, 1), None, None),
            (swap_loops(swapped, 0), (c + 1, (0, c, 0), (1, 0, 0)), (c + 1, (1, 0, 0), 0)))


def folded(kind, far, c, way):
    """The text of a program with an array t."""
    if kind in (1, 2):
        first = "for i from 0 below {}:\n t[i {}] = 1 + a[i]\n".format(far, plus(c))
        if far < 5:
            first = "for i from 0 below 1:\n" + "".join(" t[{0}] = 1 + a[{0}]\n".format(c + k) for k in range(far))
        write = " t[i {}] = 1 + a[i]\n".format(plus(c))
        read = " b[i] = 1 + t[i {}]\n".format(plus(c - far))
        if kind == 2:
            write, read = (read, write) if way else ("", " t[i {}] = 1 + t[i {}]\n".format(plus(c), plus(c - far)))
        return first + "for i from {} below n:\n".format(far) + write + read
    if kind == 3:
        return "for i from 0 below n:\n t[i + {0}] = 1 + a[i]\n t[i + {1}] = 1\n b[i] = 1 + t[i + {0}]\n".format(c, c + far)
    if kind == 4:
        return "for i from 0 below n:\n t[{0} * i + {1}] = 1\nfor i from 0 below n{2}:\n b[i] = 1 + t[{0} * i + {1}]\n".format(
            far, c, " down" if way else "")
    return "for i from 0 below n:\n t[2 * i + {0}] = 1\n t[2 * n - 2 * i + {1}] = 1\n b[i] = 1 + t[2 * i + {0}]\n".format(c, c + 1)


def least_failing(kind, far, m):
    """The least size at which m divides a distance, None if it divides none."""
    if kind == 4:
        return m // gcd(m, far) + 1
    if kind == 5:
        return None if m % 2 == 0 else min(n for n in range(m + 1) if any((2 * n + 1 - 4 * i) % m == 0 for i in range(n)))
    if kind == 3:
        return 1 if far % m == 0 else None
    return far + 1 if m <= (far if kind == 1 else far - 1) else None


def cell_of(kind, far, c, n, work):
    """The cell of t that a work writes."""
    loop, i, statement = work
    if kind in (1, 2):
        return c + statement if loop == 0 and far < 5 else i + c
    if kind == 3:
        return i + c + (far if statement == 1 else 0)
    if kind == 4:
        return far * i + c
    return 2 * i + c if statement == 0 else 2 * n - 2 * i + c + 1


class FarGroupsTest(unittest.TestCase):
    def timed(self, groups):
        """Runs functions, one for each group, and tells whether they are fast enough."""
        before = time.process_time()
        for group in groups:
            group()
        self.assertLess((time.process_time() - before) / len(groups), SECONDS)

    def rewriting_group(self, numbers):
        for c in numbers:
            for rewriting, turned, unlike in rewritings(c):
                self.assertEqual([lost_work(rewriting), turned_pair(rewriting), unlike_flow(rewriting)], [None, turned, unlike])
            one = read_program(ONE)
            more = read_program("for i from 0 below n + {}:\n a[i] = 1\n".format(c))
            both = read_program(ONE + "for i from 0 below n + {}:\n a[i] = 1\n".format(c))
            lost = (0, (0, c, 0)) if c % 2 else (1, (0, c + 1, 0))
            for rewriting, wanted in ((cut_loop(one, 0, N - c), None), (cut_loop(one, 0, c), (0, (0, 0, 0))), (cut_loop(more, 0, c), None),
                                      (cut_loop(more, 0, N + c + 1), (0, (0, c, 0))), (unroll_loop(more, 0, 2), lost),
                                      (join_loops(both, 0), (0, (1, 0, 0)))):
                self.assertEqual(lost_work(rewriting), wanted)

    def test_rewritings_far_out(self):
        chance = random.Random(121)
        numbers = [(chance.randint(1, 12), chance.randint(1, 900)) for _ in range(GROUPS)] + [(1, 900), (12, 899), (2, 1)]
        self.timed([lambda pair=pair: self.rewriting_group(pair) for pair in numbers])

    def fold_group(self, kind, far, c, way, numbers):
        program = read_program(folded(kind, far, c, way))
        right = [m for m in range(1, far + 902) if least_failing(kind, far, m) is None][:1] if kind in (1, 2, 3) else [None if kind == 4 else 2]
        self.assertEqual(fold_least(program, "t"), right[0])
        for m in (1, 2, 3, *numbers[:2]):
            if kind == 5 or kind == 4:
                self.assertIs(fold_is_right(program, "t", m), kind == 5 and m % 2 == 0)
            else:
                self.assertIs(fold_is_right(program, "t", m), least_failing(kind, far, m) is None)
        m = numbers[2]
        told = fold_fails(program, "t", m)
        least = least_failing(kind, far, m)
        if least is None:
            self.assertIsNone(told)
        else:
            self.check_failing(kind, far, c, m, least, told)

    def check_failing(self, kind, far, c, m, least, told):
        n, r, read, w, v = told
        self.assertEqual((n, read), (least, 0))
        apart = cell_of(kind, far, c, n, v) - cell_of(kind, far, c, n, w)
        self.assertTrue(apart != 0 and apart % m == 0)
        taken = r[1] - far if kind in (1, 2) else r[1]
        self.assertEqual(cell_of(kind, far, c, n, w), {4: far, 5: 2}.get(kind, 1) * taken + c)
        if kind in (1, 2):
            # There is one turn of the second loop at this size.
            self.assertEqual(r[:2], (1, far))
            self.assertTrue(w[0] == 0 and (v[0] == 0 and w < v or v == (1, far, 0) and kind == 1))
        elif kind == 4:
            self.assertTrue(w < v and v[0] == w[0] == 0 and r == (1, w[1], 0) and v[1] < n)
        else:
            self.assertEqual((r, w, v), ((0, r[1], 2), (0, r[1], 0), (0, r[1], 1)))
            self.assertTrue(0 <= r[1] < n)

    def test_folds(self):
        chance = random.Random(122)
        groups = []
        for at in range(GROUPS):
            kind = at % 5 + 1
            far = chance.randint(1, 900) if kind == 3 else chance.randint(1, 4) if kind >= 4 else chance.choice([chance.randint(1, 90), chance.randint(1, 6)])
            c = chance.randint(0, 900 if far <= 4 else 99)
            numbers = (chance.randint(1, 9), chance.randint(1, 10 ** 30), chance.randint(1, 100))
            groups.append(lambda part=(kind, far, c, chance.random() < 0.5, numbers): self.fold_group(*part))
        self.timed(groups)


class GreatSizesTest(unittest.TestCase):
    def test_great_sizes_take_hardly_longer_than_small_ones(self):
        near = read_program("for i from 0 below n:\n t[i] = a[i]\n x[i + 1] = 2\n if i >= 1: b[i] = t[i] + t[i - 1]\nfor i from 0 below n:\n"
                            " y[i] = x[i + 2] + b[n - i]\n")
        copies = read_program("for i from 0 below n:\n t[n - 1 - i] = x[i]\nfor i from 0 below n:\n y[i] = t[i]\n")
        for call in (lambda n: window(near, "t", n), lambda n: fold_is_right_at(near, "t", n, 64), lambda n: fold_least_at(near, "t", n),
                     lambda n: gaps_at(near, 0, n), lambda n: least_gap_at(near, 0, n), lambda n: lanes_at(near, 0, n),
                     lambda n: lag_at(near, 0, n), lambda n: is_free(near, 0, "free", n), lambda n: path(copies, n, (1, 0, 0), 5)):
            for n in (10, 10 ** 30):
                before = time.process_time()
                call(n)
                self.assertLess(time.process_time() - before, 0.5)


if __name__ == "__main__":
    unittest.main()
