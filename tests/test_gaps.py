"""[62] and [63]: turns that touch, their gaps and lanes."""

import unittest
from math import gcd

from loopsize.digitsets import DigitSet, is_none, put_in
from loopsize.errors import BadSize, NoLoop, TooLarge
from loopsize.gaps import gaps, gaps_at, lane_pairs, lanes, lanes_at, least_gap, least_gap_at, touching
from loopsize.members import least_of
from loopsize.rewriting import turn_loop
from loopsize.texts import program_text, read_program
from tests.plain import numbers_set
from tests.plainturns import plain_touching
from tests.samples import or_error, random_programs

BIG = 10 ** 30
SIZES = range(8)
FAR = read_program("for i from 3 below n:\n x[i] = 1 + x[i - 2] + x[i - 3]\n")
MOVED = read_program("for i from 0 below 2 * n:\n x[i + n] = x[i]\n")
NO_TURNS = read_program("for i from 5 below 5:\n x[0] = 1 + x[0]\n")
NO_GAP = read_program("for i from 0 below n:\n x[i] = 1 + x[i] + a[i + 1] + a[0]\n")
STEPS = read_program("for i from 1 below n by 4 down:\n x[i] = 1 + x[i + 24]\n x[i + 7] = 1 + x[i - 29]\n")
OF_ONE_LOOP = (touching, gaps, least_gap, lanes, lane_pairs)
AT_SIZE = (gaps_at, least_gap_at, lanes_at)


def plain_gaps(program, n, loop):
    step = program.loops[loop].step
    return sorted({(j - i) // step for i, j in plain_touching(program, n, loop)})


class GapsTest(unittest.TestCase):
    def test_examples(self):
        self.assertEqual([(6, 3, 5) in touching(FAR, 0), (5, 3, 5) in touching(FAR, 0), least_gap(FAR, 0), lanes(FAR, 0)],
                         [True, False, 2, 1])
        self.assertEqual([1 in gaps(FAR, 0), 3 in gaps(FAR, 0), 2 in gaps_at(FAR, 0, 5), 2 in gaps_at(FAR, 0, 6)],
                         [False, True, False, True])
        self.assertEqual([least_gap(MOVED, 0), least_gap_at(MOVED, 0, BIG) == BIG, lanes_at(MOVED, 0, 7),
                          lanes_at(MOVED, 0, 0)], [1, True, 7, 0])

    def test_touching_turns_by_plain_logs(self):
        met = set()
        for program in random_programs(221, 50) + [FAR, MOVED, NO_TURNS, NO_GAP, STEPS]:
            for loop in range(len(program.loops)):
                told = or_error(touching, program, loop)
                for n in SIZES:
                    plain = plain_touching(program, n, loop)
                    met.add(bool(plain))
                    if told != "TooLarge":
                        found = {(i, j) for i in range(24) for j in range(24) if (n, i, j) in told}
                        self.assertEqual(found, plain, program_text(program))
        self.assertEqual(met, {False, True})

    def test_gaps_of_one_size_by_plain_logs(self):
        for program in random_programs(222, 30) + [FAR, MOVED, NO_TURNS, NO_GAP, STEPS]:
            for loop in range(len(program.loops)):
                for n in (*SIZES, 25):
                    plain = plain_gaps(program, n, loop)
                    told = gaps_at(program, loop, n)
                    self.assertEqual([gap for gap in range(100) if gap in told], plain, program_text(program))
                    self.assertTrue(told == numbers_set(*plain))
                    self.assertEqual(least_gap_at(program, loop, n), min(plain, default=0))
                    self.assertEqual(lanes_at(program, loop, n), gcd(*plain))

    def test_gaps_of_all_sizes(self):
        met = set()
        for program in random_programs(223, 40) + [FAR, MOVED, NO_TURNS, NO_GAP, STEPS]:
            for loop in range(len(program.loops)):
                plain = sorted({gap for n in range(21) for gap in plain_gaps(program, n, loop)})
                met.add(bool(plain))
                told = or_error(gaps, program, loop)
                if told != "TooLarge":
                    for gap in range(9):
                        if gap in told and gap not in plain:
                            self.assertTrue(any(gap in gaps_at(program, loop, n) for n in range(21, 70)))
                    self.assertTrue(all(gap in told for gap in plain))
                    least = least_of(told)
                    self.assertEqual(least_gap(program, loop), 0 if least is None else least[0])
                if plain:
                    self.assertEqual(least_gap(program, loop), plain[0], program_text(program))
                    self.assertEqual(gcd(*plain) % lanes(program, loop), 0)
                self.check_lanes(program, loop, told)
        self.assertEqual(met, {False, True})

    def check_lanes(self, program, loop, told):
        rows = lane_pairs(program, loop)
        step = program.loops[loop].step
        divisor = lanes(program, loop)
        self.assertIs(type(rows), tuple)
        self.assertLessEqual(len(rows), 100)
        self.assertEqual(gcd(*[(j - i) // step for _, i, j in rows]), divisor)
        self.assertEqual(rows == (), divisor == 0)
        there = or_error(touching, program, loop)
        for row in rows:
            self.assertIs(type(row), tuple)
            self.assertEqual((row[2] - row[1]) % step, 0)
            if there != "TooLarge":
                self.assertIn(row, there)
            elif row[0] < 300:
                self.assertIn(row[1:], plain_touching(program, row[0], loop))
        if told != "TooLarge" and divisor > 0:
            self.assertTrue(all(gap % divisor == 0 for gap in range(200) if gap in told))

    def test_the_direction_changes_nothing(self):
        for program in random_programs(224, 30) + [FAR, STEPS]:
            for loop in range(len(program.loops)):
                other = turn_loop(program, loop).after
                for function in OF_ONE_LOOP[:4]:
                    one = or_error(function, program, loop)
                    self.assertTrue(one == or_error(function, other, loop), function)
                for function in AT_SIZE:
                    self.assertTrue(function(program, loop, 6) == function(other, loop, 6))

    def test_steps(self):
        self.assertEqual([least_gap(STEPS, 0), lanes(STEPS, 0), least_gap_at(STEPS, 0, 30), lanes_at(STEPS, 0, BIG)],
                         [6, 3, 6, 3])
        self.assertEqual([gap for gap in range(40) if gap in gaps(STEPS, 0)], [6, 9])
        self.assertEqual([gap for gap in range(40) if gap in gaps_at(STEPS, 0, 37)], [6])
        self.assertEqual([gap for gap in range(40) if gap in gaps_at(STEPS, 0, 38)], [6, 9])

    def test_no_gap(self):
        for program in (NO_TURNS, NO_GAP):
            self.assertTrue(is_none(touching(program, 0)))
            self.assertTrue(is_none(gaps(program, 0)))
            self.assertEqual([least_gap(program, 0), lanes(program, 0), lane_pairs(program, 0)], [0, 0, ()])
            for n in (0, 1, 10, BIG):
                self.assertTrue(is_none(gaps_at(program, 0, n)))
                self.assertEqual([least_gap_at(program, 0, n), lanes_at(program, 0, n)], [0, 0])

    def test_great_sizes(self):
        self.assertEqual([lanes_at(MOVED, 0, BIG), lanes(MOVED, 0)], [BIG, 1])
        # Also of all sizes: each gap is a size, and each size from 1 on is a gap.
        self.assertEqual([0 in gaps(MOVED, 0), 1 in gaps(MOVED, 0), 7 * BIG in gaps(MOVED, 0)], [False, True, True])
        told = gaps_at(MOVED, 0, 399)
        self.assertEqual([399 in told, 398 in told, 798 in told], [True, False, False])
        thirds = read_program("for i from 0 below n:\n x[3 * i] = 1 + x[6 * i + n]\n")
        for n in (BIG, BIG - 1, BIG - 2):
            # 3 i = 6 j + n: n is a multiple of 3, and i - j = j + n / 3 with i below n.
            self.assertEqual(least_gap_at(thirds, 0, n), n // 3 if n % 3 == 0 else 0)
        self.assertEqual([lanes_at(thirds, 0, BIG - 1), lanes_at(thirds, 0, 3)], [1, 1])
        self.assertTrue(put_in(touching(FAR, 0), 0, 5) == put_in(touching(FAR, 0), 0, 0))

    def test_too_large(self):
        large = read_program("for i from 0 below 2 * n by 5:\n x[11 * i + 97] = 1 + x[12 * i - 5 * n - 91]\n x[7 * i + n] = 1\n")
        with self.assertRaises(TooLarge) as caught:
            touching(large, 0)
        self.assertEqual(caught.exception.most, 400)
        with self.assertRaises(TooLarge):
            gaps_at(read_program("for i from 0 below n:\n x[3 * i + 5] = 1 + x[7 * i + 5 * n]\n x[11 * i] = 1\n"), 0, BIG)
        self.assertEqual(least_gap(large, 0) * 5, min(j - i for n in range(60) for i, j in plain_touching(large, n, 0)))
        self.assertGreater(len(lane_pairs(large, 0)), 0)

    def test_errors_and_their_order(self):
        for value in (1, -1, True, None, "0", 0.0, (0,), [], {}):
            calls = [lambda function=function: function(FAR, value) for function in OF_ONE_LOOP]
            calls += [lambda function=function: function(FAR, value, -1) for function in AT_SIZE]
            for call in calls:
                with self.assertRaises(NoLoop) as caught:
                    call()
                self.assertIs(caught.exception.loop, value)
        for value in (-1, BIG + 1, True, None, "1", 1.0, (), {}):
            for function in AT_SIZE:
                with self.assertRaises(BadSize) as caught:
                    function(FAR, 0, value)
                self.assertIs(caught.exception.n, value)
        self.assertIsInstance(gaps_at(program=FAR, loop=0, n=9), DigitSet)
        self.assertEqual([touching(program=FAR, loop=0).arity, gaps(program=FAR, loop=0).arity], [3, 1])


if __name__ == "__main__":
    unittest.main()
