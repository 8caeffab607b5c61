"""[3] to [6]: conditions, sets, machines, sets made of sets."""

import itertools
import unittest

from loopsize.conditionsets import case_machines
from loopsize.digitsets import DigitSet, both, digit_set, either, is_all, is_none, left_out, others, put_in
from loopsize.digitsets import reordered, widened, without
from loopsize.errors import LoopError, TooLarge
from loopsize.largeness import surely_above
from loopsize.members import least_of
from tests.plain import numbers_set, plain_cases, random_sets, small_rows

BOUNDS = {1: 60, 2: 14, 3: 8, 4: 5}
LARGE = ((("rest", (1,), 23, (0,)), ("rest", (1,), 19, (0,))),)


def made_of(s, function):
    """The set that a function makes, None if its machine is too large."""
    try:
        return function(s)
    except TooLarge:
        return None


class ConditionsTest(unittest.TestCase):
    def test_rows_that_are_in_by_plain_counting(self):
        for arity, cases, s in random_sets(1, 120):
            for row in small_rows(arity, BOUNDS[arity]):
                self.assertEqual(row in s, plain_cases(cases, row), (cases, row))

    def test_rows_of_numbers_of_thirty_digits(self):
        big = 10 ** 30
        for arity, cases, s in random_sets(2, 60):
            for row in itertools.product((0, 1, big, big + 1, 7 * big // 3), repeat=arity):
                self.assertEqual(row in s, plain_cases(cases, row), (cases, row))

    def test_rests_of_sums_below_0(self):
        s = digit_set(2, ((("rest", (-3, 1), 7, (2, 5, 40, -1)),),))
        for i, n in small_rows(2, 30):
            self.assertEqual((i, n) in s, (n - 3 * i) % 7 in (2, 5))

    def test_rest_by_one_and_no_rests(self):
        self.assertTrue(is_all(digit_set(2, ((("rest", (1, 5), 1, (0,)),),))))
        self.assertTrue(is_none(digit_set(2, ((("rest", (1, 5), 1, (1, 2)),),))))
        self.assertTrue(is_none(digit_set(1, ((("rest", (1,), 24, ()),),))))

    def test_bounds_of_numbers(self):
        top = 10 ** 6
        s = digit_set(1, ((("least", (1,), top),),))
        self.assertEqual([n in s for n in (top - 1, top)], [False, True])
        s = digit_set(1, ((("least", (-1,), -top),),))
        self.assertEqual([n in s for n in (0, top, top + 1)], [True, True, False])
        s = digit_set(1, ((("is", (100,), top),),))
        self.assertEqual([n in s for n in (9999, 10000, 10001)], [False, True, False])
        s = digit_set(1, ((("is", (-100,), -top),),))
        self.assertEqual([n in s for n in (9999, 10000, 10001)], [False, True, False])
        s = digit_set(1, ((("rest", (-100,), 24, (4,)),),))
        self.assertEqual([n in s for n in range(9)], [-100 * n % 24 == 4 for n in range(9)])

    def test_no_case_and_the_case_without_conditions(self):
        for arity in (1, 2, 3, 4):
            self.assertTrue(is_none(digit_set(arity, ())))
            self.assertFalse(is_all(digit_set(arity, ())))
            self.assertTrue(is_all(digit_set(arity, ((),))))
            self.assertTrue(is_all(digit_set(arity, ((("is", (1,) * arity, 3),), ()))))
            self.assertEqual(digit_set(arity, ()).ends, (False,))
            self.assertEqual(digit_set(arity, ((),)).rows, ((0,) * 2 ** arity,))

    def test_factors_that_are_all_0(self):
        self.assertTrue(is_all(digit_set(2, ((("is", (0, 0), 0),),))))
        self.assertTrue(is_none(digit_set(2, ((("is", (0, 0), 1),),))))
        self.assertTrue(is_all(digit_set(2, ((("least", (0, 0), -1),),))))
        self.assertTrue(is_none(digit_set(2, ((("least", (0, 0), 1),),))))


class RowsTest(unittest.TestCase):
    def test_what_is_no_row_is_not_in(self):
        for s in (digit_set(2, ((),)), digit_set(1, ((),)), digit_set(4, ((),))):
            for value in (None, "ab", 1.0, (), (1.0, 2), (-1, 0), (True, 1), (1, False), {1, 2}, {0: 1, 1: 2}, -1,
                          True, False, "1", b"ab", (1, "5"), (1, None), ((1,), 2), (1, 2, 3), object(), [0, -1]):
                if value != (1, 2, 3) or s.arity != 3:
                    self.assertIs(value in s, False, value)

    def test_tuples_and_lists_are_rows(self):
        s = digit_set(2, ((("least", (-1, 1), 1),),))
        self.assertIs((3, 5) in s, True)
        self.assertIs([3, 5] in s, True)
        self.assertIs([5, 3] in s, False)
        self.assertIs(3 in s, False)

    def test_an_integer_stands_for_a_row_of_one_number(self):
        s = digit_set(1, ((("rest", (1,), 2, (1,)),),))
        self.assertEqual([k in s for k in (0, 1, 2, 3, 10 ** 30 + 1)], [False, True, False, True, True])
        self.assertEqual([(1,) in s, [3] in s, (2,) in s, (1, 1) in s], [True, True, False, False])
        self.assertEqual([True in s, (True,) in s, -1 in s, (-1,) in s], [False, False, False, False])

    def test_numbers_of_three_hundred_digits(self):
        s = digit_set(2, ((("is", (3, -1), 1),),))
        self.assertTrue((10 ** 300, 3 * 10 ** 300 - 1) in s)
        self.assertFalse((10 ** 300, 3 * 10 ** 300) in s)


class MachinesTest(unittest.TestCase):
    def test_examples(self):
        even = digit_set(1, ((("rest", (1,), 2, (0,)),),))
        self.assertEqual((even.rows, even.ends), (((1, 2), (1, 1), (2, 2)), (True, True, False)))
        below = digit_set(2, ((("least", (-1, 1), 1),),))
        self.assertEqual((below.rows, below.ends), (((0, 0, 1, 0), (1, 0, 1, 1)), (False, True)))
        self.assertEqual([(3, 5) in below, (5, 3) in below, (5, 5) in below, [3, "5"] in below],
                         [True, False, False, False])
        positive = left_out(below, 0)
        self.assertEqual([n in positive for n in range(5)], [False, True, True, True, True])
        self.assertEqual(positive, others(numbers_set(0)))
        self.assertTrue(is_all(left_out(below, 1)))
        self.assertEqual(put_in(below, 1, 3), numbers_set(0, 1, 2))
        self.assertEqual(reordered(below, (1, 0)), digit_set(2, ((("least", (1, -1), 1),),)))

    def test_states_are_in_the_order_in_which_they_are_met(self):
        for _, cases, s in random_sets(3, 80):
            met = [0]
            for row in s.rows:
                for then in row:
                    if then not in met:
                        met.append(then)
            self.assertEqual(met, list(range(s.states)), cases)

    def test_kinds_of_the_attributes(self):
        for arity, _, s in random_sets(4, 30):
            self.assertIsInstance(s, DigitSet)
            self.assertEqual((s.arity, s.states), (arity, len(s.ends)))
            self.assertEqual(len(s.rows), s.states)
            self.assertTrue(all(end is True or end is False for end in s.ends))
            self.assertIsInstance(s.rows, tuple)
            self.assertIsInstance(s.ends, tuple)
            for row in s.rows:
                self.assertIsInstance(row, tuple)
                self.assertEqual(len(row), 2 ** arity)

    def test_no_two_states_are_alike(self):
        for _, cases, s in random_sets(5, 60):
            marks = list(s.ends)
            for _ in range(s.states):
                marks = [(end, *[marks[then] for then in row]) for end, row in zip(s.ends, s.rows)]
                names = {}
                marks = [names.setdefault(mark, len(names)) for mark in marks]
            self.assertEqual(len(set(marks)), s.states, cases)

    def test_zeros_behind_the_highest_digits_change_nothing(self):
        for _, cases, s in random_sets(6, 60):
            for row, end in zip(s.rows, s.ends):
                self.assertEqual(s.ends[row[0]], end, cases)

    def test_the_machine_reads_the_letters_of_a_row(self):
        for arity, cases, s in random_sets(7, 40):
            for row in small_rows(arity, 4):
                state = 0
                for at in range(5):
                    state = s.rows[state][sum((number >> at & 1) << place for place, number in enumerate(row))]
                self.assertEqual(s.ends[state], plain_cases(cases, row))

    def test_equal_sets(self):
        case = (("least", (1, -1), 1),)
        other = (("rest", (1, 2), 3, (0, 1)),)
        s = digit_set(2, (case, other))
        self.assertTrue(s == digit_set(2, (other, case)))
        self.assertTrue(s == digit_set(2, (case, other, case, other)))
        self.assertTrue(s == digit_set(2, [list(case), [["rest", [1, 2], 3, [4, 1, 0, 1]]]]))
        self.assertFalse(s != digit_set(2, (other, case)))
        self.assertFalse(s == digit_set(2, (case,)))
        self.assertTrue(digit_set(2, (case + other,)) == digit_set(2, (other + case + case,)))
        self.assertTrue(digit_set(1, ((("least", (2,), 1),),)) == digit_set(1, ((("least", (1,), 1),),)))

    def test_sets_of_other_arities_and_other_things_are_not_equal(self):
        for arity in (1, 2, 3):
            self.assertFalse(digit_set(arity, ()) == digit_set(arity + 1, ()))
            self.assertFalse(digit_set(arity, ((),)) == digit_set(arity + 1, ((),)))
        s = digit_set(1, ())
        for value in (None, (), 0, False, "", set(), (s.rows, s.ends), object()):
            self.assertIs(s == value, False)
            self.assertIs(s != value, True)

    def test_too_large(self):
        with self.assertRaises(TooLarge) as caught:
            digit_set(1, LARGE)
        self.assertEqual(caught.exception.most, 400)

    def test_the_last_number_of_states_that_is_told(self):
        alike = digit_set(2, ((("is", (1, -1), 0),),))
        told = put_in(alike, 1, 2 ** 397)
        self.assertEqual(told.states, 400)
        self.assertTrue(told == put_in(alike, 0, 2 ** 397))
        self.assertEqual([2 ** 397 in told, 2 ** 397 + 1 in told], [True, False])
        with self.assertRaises(TooLarge) as caught:
            put_in(alike, 1, 2 ** 398)
        self.assertEqual(caught.exception.most, 400)

    def test_all_that_tell_a_set_raise_too_large(self):
        one = digit_set(1, ((("rest", (1,), 23, (0,)),),))
        other = digit_set(1, ((("rest", (1,), 19, (0,)),),))
        for function in (both, either, without):
            with self.assertRaises(TooLarge):
                function(one, other)
        pairs = both(widened(one, 1), digit_set(2, ((("rest", (0, 1), 2, (0,)),),)))
        self.assertLessEqual(pairs.states, 400)
        with self.assertRaises(TooLarge):
            both(widened(one, 1), widened(other, 0))

    def test_a_large_set_on_the_way_to_a_small_one(self):
        cases = LARGE + ((("rest", (1,), 23, tuple(range(1, 23))),), (("rest", (1,), 19, tuple(range(1, 19))),))
        self.assertTrue(is_all(digit_set(1, cases)))
        hard = (("is", (100, 99, -98), 10 ** 6), ("least", (-100, 99, -97), 10 ** 6), ("is", (0, 0, 1), 5))
        self.assertLessEqual(digit_set(3, (hard,)).states, 400)


class LargenessTest(unittest.TestCase):
    """What is seen of a large machine before it is made is true of it."""

    def test_not_more_states_are_seen_than_there_are(self):
        seen = 0
        for arity, cases, s in random_sets(8, 80):
            machines = case_machines(arity, cases)
            if machines and [] not in machines:
                self.assertFalse(surely_above(machines, s.states), cases)
                seen += surely_above(machines, s.states // 2)
        self.assertGreater(seen, 10)

    def test_sets_that_nobody_could_make(self):
        one = ("least", (100, -99, 98, -97), 10 ** 6)
        other = ("least", (-91, 89, -98, 83), -10 ** 6)
        third = ("rest", (7, 5, 3, 1), 24, (1, 2, 3, 5, 8, 13, 21))
        for cases in (((one, other, third),), ((one, third), (other,)), ((one,), (other,), (third,))):
            with self.assertRaises(TooLarge):
                digit_set(4, cases)

    def test_large_conditions_that_do_not_matter(self):
        one = ("least", (100, -99, 98, -97), 10 ** 6)
        other = ("least", (-91, 89, -98, 83), -10 ** 6)
        self.assertTrue(is_all(digit_set(4, ((one, other), (("least", (1, 1, 1, 1), 0),)))))
        self.assertTrue(is_none(digit_set(4, ((one, other, ("least", (-1, -1, -1, -1), 1)),))))
        self.assertTrue(is_all(digit_set(4, ((one, other), ()))))
        few = (("least", (-1, -1, -1, -1), -3),)
        s = digit_set(4, (few + (one,), few + (other,)))
        self.assertTrue(s == digit_set(4, (few,)))


class SetsOfSetsTest(unittest.TestCase):
    def pairs(self):
        sets = random_sets(11, 120)
        for arity in (1, 2, 3, 4):
            alike = [s for own, _, s in sets if own == arity]
            for a, b in zip(alike, alike[1:]):
                yield arity, a, b

    def test_both_either_without_others(self):
        for arity, a, b in self.pairs():
            try:
                made = both(a, b), either(a, b), without(a, b), others(a)
            except TooLarge:
                continue
            for row in small_rows(arity, BOUNDS[arity]):
                in_a, in_b = row in a, row in b
                wanted = [in_a and in_b, in_a or in_b, in_a and not in_b, not in_a]
                self.assertEqual([row in s for s in made], wanted)

    def test_facts(self):
        for arity, a, b in self.pairs():
            try:
                self.assertTrue(both(a, others(b)) == without(a, b))
                self.assertTrue(others(others(a)) == a)
                if arity > 1:
                    self.assertTrue(left_out(either(a, b), 0) == either(left_out(a, 0), left_out(b, 0)))
                    self.assertTrue(is_none(without(left_out(both(a, b), 0), both(left_out(a, 0), left_out(b, 0)))))
            except TooLarge:
                continue

    def test_left_out(self):
        for arity, cases, s in random_sets(12, 80, arities=(2, 3, 4)):
            for place in range(arity):
                made = made_of(s, lambda a: left_out(a, place))
                if made is None:
                    continue
                self.assertEqual(made.arity, arity - 1)
                for row in small_rows(arity - 1, 5):
                    found = least_of(put_in_all(s, place, row))
                    self.assertEqual(row in made, found is not None, (cases, place, row))
                    if found is not None:
                        self.assertTrue(plain_cases(cases, row[:place] + found + row[place:]))

    def test_left_out_number_with_more_digits_than_the_others(self):
        s = digit_set(2, ((("is", (100, -1), -10 ** 4),),))
        self.assertTrue(is_all(left_out(s, 1)))
        self.assertEqual([n in left_out(s, 0) for n in (0, 9900, 10000, 10001, 10100)], [False, False, True, False, True])
        chain = digit_set(3, ((("is", (-9, 1, 0), 0), ("is", (0, -9, 1), 0)),))
        self.assertTrue(is_all(left_out(left_out(chain, 1), 1)))
        self.assertEqual([n in left_out(left_out(chain, 0), 0) for n in (0, 9, 27, 81, 162, 163)],
                         [True, False, False, True, True, False])

    def test_put_in(self):
        for arity, cases, s in random_sets(13, 60, arities=(2, 3, 4)):
            for place in range(arity):
                for number in (0, 1, 6, 10 ** 9):
                    made = made_of(s, lambda a: put_in(a, place, number))
                    if made is not None:
                        for row in small_rows(arity - 1, 6):
                            self.assertEqual(row in made, plain_cases(cases, row[:place] + (number,) + row[place:]))

    def test_widened(self):
        for arity, _, s in random_sets(14, 40, arities=(1, 2, 3)):
            for place in range(arity + 1):
                made = widened(s, place)
                self.assertEqual(made.arity, arity + 1)
                for row in small_rows(arity + 1, 5):
                    self.assertEqual(row in made, row[:place] + row[place + 1:] in s)
                self.assertTrue(left_out(made, place) == s)

    def test_reordered(self):
        for arity, _, s in random_sets(15, 40):
            for places in itertools.permutations(range(arity)):
                made = reordered(s, list(places))
                for row in small_rows(arity, 4):
                    self.assertEqual(tuple(row[place] for place in places) in made, row in s)

    def test_is_none_and_is_all(self):
        below = digit_set(2, ((("least", (-1, 1), 1),),))
        self.assertIs(is_none(below), False)
        self.assertIs(is_all(below), False)
        self.assertIs(is_none(both(below, others(below))), True)
        self.assertIs(is_all(either(below, others(below))), True)
        self.assertIs(is_none(numbers_set(10 ** 6)), False)

    def test_arguments_by_name_and_nothing_is_changed(self):
        cases = [[["least", [-1, 1], 1]], [["rest", [1, 0], 2, [0]]]]
        a = digit_set(arity=2, cases=cases)
        self.assertEqual(cases, [[["least", [-1, 1], 1]], [["rest", [1, 0], 2, [0]]]])
        b = others(a=a)
        self.assertTrue(both(a=a, b=a) == either(a=a, b=a) == a)
        self.assertTrue(is_none(a=without(a=a, b=a)) and is_all(a=either(a, b)))
        self.assertTrue(put_in(a=widened(a=a, place=1), place=1, number=4) == left_out(a=widened(a, 1), place=1))
        self.assertTrue(reordered(a=reordered(a=a, places=[1, 0]), places=(1, 0)) == a)


def put_in_all(s, place, row):
    """The set of the numbers that stand at the place beside the other numbers, those of the row."""
    told = reordered(s, (place, *[other for other in range(s.arity) if other != place]))
    for number in reversed(row):
        told = put_in(told, told.arity - 1, number)
    return told


class TooLargeIsALoopErrorTest(unittest.TestCase):
    def test_it_is_caught_as_one(self):
        with self.assertRaises(LoopError):
            digit_set(1, LARGE)


if __name__ == "__main__":
    unittest.main()
