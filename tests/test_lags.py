"""[66]: how far the turns of a loop are ahead of those of the next one."""

import unittest

from loopsize.errors import BadSize, NoLag, NoLoop, Unlike
from loopsize.lags import lag, lag_at
from loopsize.orders import turned_pair
from loopsize.rewriting import join_loops, split_loop, turn_loop
from loopsize.runs import log_program
from loopsize.texts import program_text, read_program
from tests.plainturns import cells_of_turns, do_touch, sources_in_order
from tests.samples import or_error, random_programs

BIG = 10 ** 30
SIZES = range(8)
TWO = read_program("for i from 0 below n:\n x[i] = a[i]\nfor i from 0 below n:\n y[i] = x[i + 2]\n")
TURNED = read_program("for i from 0 below n:\n x[i] = a[i]\nfor i from 0 below n:\n y[i] = x[n - 1 - i]\n")
STEPS = read_program("for i from 1 below n by 3 down:\n x[i] = 1\nfor i from 1 below n by 3 down:\n y[i] = x[i - 6] + x[i + 3]\n")


def plain_lag(program, n, loop):
    one = cells_of_turns(program, n, loop)
    other = cells_of_turns(program, n, loop + 1)
    found = [p - q for p, i in enumerate(one) for q, j in enumerate(other) if do_touch(one[i], other[j])]
    return max(found, default=None)


def looped_programs(seed, many):
    """Programs with two loops of the same turns, one behind the other; pairs (program, loop)."""
    told = []
    for program in random_programs(seed, many, most_loops=2, most_statements=4):
        for loop, entry in enumerate(program.loops):
            if len(entry.statements) > 1:
                told.append((split_loop(program, loop, 1).after, loop))
    return told


def interleaved(program, n, loop, k):
    """All works, a turn q of the next loop as soon as the turns up to q + k of the loop are done."""
    works = log_program(program, n).works
    turns = [[[work for work in works if work[:2] == (place, i)] for i in cells_of_turns(program, n, place)]
             for place in (loop, loop + 1)]
    told = [work for work in works if work[0] < loop]
    done = 0
    for q, later in enumerate(turns[1]):
        upto = min(max(done, q + k + 1), len(turns[0]))
        told.extend(work for turn in turns[0][done:upto] for work in turn)
        done = upto
        told.extend(later)
    told.extend(work for turn in turns[0][done:] for work in turn)
    return told + [work for work in works if work[0] > loop + 1]


class LagsTest(unittest.TestCase):
    def test_examples(self):
        self.assertEqual([lag(TWO, 0), lag_at(TWO, 0, 2), lag_at(TWO, 0, 3)], [2, None, 2])
        self.assertEqual([lag_at(TURNED, 0, BIG) == BIG - 1, lag_at(TURNED, 0, 0)], [True, None])
        with self.assertRaises(NoLag) as caught:
            lag(TURNED, 0)
        self.assertEqual(caught.exception.loop, 0)

    def test_lags_by_plain_logs(self):
        met = set()
        for program, loop in looped_programs(231, 70) + [(TWO, 0), (TURNED, 0), (STEPS, 0)]:
            plain = [plain_lag(program, n, loop) for n in (*SIZES, 20)]
            self.assertEqual([lag_at(program, loop, n) for n in (*SIZES, 20)], plain, program_text(program))
            told = or_error(lag, program, loop)
            found = [value for value in plain if value is not None]
            met.add(told if told in (None, "NoLag") else (told > 0) - (told < 0))
            if told is None:
                self.assertEqual(found, [])
            elif told != "NoLag":
                self.assertEqual(told, max(value for value in [lag_at(program, loop, n) for n in range(40)]
                                           if value is not None), program_text(program))
            else:
                few = [lag_at(program, loop, n) for n in range(200, 206)]
                many = [lag_at(program, loop, n) for n in range(10 ** 6, 10 ** 6 + 12)]
                self.assertGreater(max(value for value in many if value is not None),
                                   max([value for value in few if value is not None], default=0))
        self.assertEqual(met, {None, "NoLag", 1, 0, -1})

    def test_joining_keeps_the_order_exactly_if_the_lag_is_at_most_0(self):
        met = set()
        for program, loop in looped_programs(232, 60) + [(TWO, 0), (TURNED, 0), (STEPS, 0)]:
            told = or_error(lag, program, loop)
            keeps = told != "NoLag" and (told is None or told <= 0)
            self.assertIs(turned_pair(join_loops(program, loop)) is None, keeps, program_text(program))
            met.add(keeps)
        self.assertEqual(met, {False, True})

    def test_turns_that_wait_for_the_lag_keep_all_sources(self):
        for program, loop in looped_programs(233, 60) + [(TWO, 0), (STEPS, 0)]:
            for n in (4, 7):
                told = lag_at(program, loop, n)
                plain = sources_in_order(program, n, log_program(program, n).works)
                for k in (0, 1, 3) if told is None else (told, told + 1, told + 5):
                    self.assertEqual(sources_in_order(program, n, interleaved(program, n, loop, k)), plain,
                                     program_text(program))

    def test_steps_and_directions(self):
        # Downward the turns with greater counters come first.
        self.assertEqual([lag(STEPS, 0), lag_at(STEPS, 0, 2), lag_at(STEPS, 0, 7), lag_at(STEPS, 0, 8), lag_at(STEPS, 0, BIG)],
                         [2, None, -1, 2, 2])
        up = turn_loop(turn_loop(STEPS, 0).after, 1).after
        self.assertEqual([lag(up, 0), lag_at(up, 0, BIG)], [1, 1])
        behind = read_program("for i from 0 below n:\n x[i] = 1\nfor i from 0 below n:\n y[i] = x[i - 999]\n")
        self.assertEqual([lag(behind, 0), lag_at(behind, 0, 999), lag_at(behind, 0, 1000)], [-999, None, -999])

    def test_turns_that_do_not_touch(self):
        apart = read_program("for i from 0 below n:\n x[2 * i] = 1\nfor i from 0 below n:\n y[i] = x[2 * i + 1]\n")
        reading = read_program("for i from 0 below n:\n x[i] = a[i]\nfor i from 0 below n:\n y[i] = a[i]\n")
        none = read_program("for i from 5 below 5:\n x[0] = 1\nfor i from 0 below 0:\n x[0] = 2\n")
        for program in (apart, reading, none):
            self.assertIsNone(lag(program, 0))
            self.assertEqual([lag_at(program, 0, n) for n in (0, 1, 10, BIG)], [None] * 4)

    def test_no_next_loop(self):
        for value in (2, -1, True, None, "0", 0.0, (0,), []):
            for call in (lambda: lag(TWO, value), lambda: lag_at(TWO, value, -1)):
                with self.assertRaises(NoLoop) as caught:
                    call()
                self.assertIs(caught.exception.loop, value)
        for call in (lambda: lag(TWO, 1), lambda: lag_at(TWO, 1, 0)):
            with self.assertRaises(NoLoop) as caught:
                call()
            self.assertEqual(caught.exception.loop, 2)

    def test_sizes_come_ahead_of_what_the_next_loop_is(self):
        unlike = read_program("for i from 0 below n:\n x[i] = 1\nfor i from 0 below 2 * n:\n y[i] = x[i]\n")
        for value in (-1, BIG + 1, True, None, "1", 1.0, ()):
            for program, loop in ((TWO, 0), (TWO, 1), (unlike, 0)):
                with self.assertRaises(BadSize) as caught:
                    lag_at(program, loop, value)
                self.assertIs(caught.exception.n, value)

    def test_loops_that_differ(self):
        heads = ("from 0 below n", "from 0 below n down", "from 0 below n by 2", "from 1 below n", "from 0 below n + 1")
        for one in heads:
            for other in heads:
                program = read_program("for i from 0 below 9:\n y[0] = 1\nfor i {}:\n x[i] = 1\nfor i {}:\n x[i] = 2\n".format(one, other))
                if one == other:
                    self.assertEqual([lag(program, 1), lag_at(program, 1, 9)], [0, 0])
                    continue
                for call in (lambda: lag(program, 1), lambda: lag_at(program, 1, 0)):
                    with self.assertRaises(Unlike) as caught:
                        call()
                    self.assertEqual(caught.exception.loop, 1)
        same = read_program("for i from 0 below n:\n x[i] = 1\nfor i from -2 below (3 * n + 2) // 3:\n x[i] = 2\n")
        self.assertEqual([lag(same, 0), lag_at(same, 0, BIG)], [0, 0])
        late = read_program("for i from 0 below 500:\n x[i] = 1\nfor i from n - 400 below 500:\n x[i] = 2\n")
        self.assertEqual([or_error(lag, late, 0), or_error(lag_at, late, 0, 3)], ["Unlike", "Unlike"])

    def test_names_of_arguments(self):
        self.assertEqual([lag(program=TWO, loop=0), lag_at(program=TWO, loop=0, n=BIG)], [2, 2])


if __name__ == "__main__":
    unittest.main()
