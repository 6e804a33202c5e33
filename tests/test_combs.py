"""Part 1: combs [5], [10]."""

import unittest

from tests import helpers
from tests.helpers import FULL, GREAT, Odd, all_combs, catches_at, raised, sample_combs
from twocombs.combs import (catch_above, catch_below, catch_count, is_comb, is_device, nth_catch, plain_comb,
                            widest_gap)
from twocombs.errors import InvalidComb, InvalidNumber

COMB = (10, [0, 3])
FAR = [GREAT, GREAT - 1, 10 ** 39, -GREAT, 1 - GREAT, -(10 ** 39), 3 * 10 ** 39 + 7, -3 * 10 ** 39 - 7]
NEAR = list(range(-60, 61))


class ExamplesTest(unittest.TestCase):
    def test_is_comb(self):
        values = [(10, [0, 3]), (1, [0]), (24, []), (25, [0]), (10, [3, 0]), (10, (0,)), [10, [0]], (10, [10])]
        self.assertEqual([is_comb(value) for value in values], [True, True] + [False] * 6)

    def test_is_device(self):
        self.assertIs(is_device(((10, [0, 3]), (5, [0]))), True)
        self.assertIs(is_device(((10, [0, 3]),)), False)
        self.assertIs(is_device([(1, [0]), (1, [0])]), False)

    def test_catches(self):
        self.assertEqual([catch_below(COMB, number) for number in (12, 13, -1, 0)], [10, 13, -7, 0])
        self.assertEqual([catch_above(COMB, number) for number in (12, 14, -1)], [13, 20, 0])

    def test_counts_and_indexes(self):
        self.assertEqual((catch_count(COMB, -7, 13), catch_count(COMB, 4, 9)), (5, 0))
        self.assertEqual([nth_catch(COMB, index) for index in (0, 3, -1, 2 * 10 ** 30)], [0, 13, -7, 10 ** 31])

    def test_plain_combs_and_gaps(self):
        self.assertEqual(plain_comb((20, [0, 3, 10, 13])), (10, [0, 3]))
        self.assertEqual(plain_comb((6, [1, 3, 5])), (2, [1]))
        self.assertEqual(plain_comb((6, [1, 4, 5])), (6, [1, 4, 5]))
        self.assertEqual((widest_gap(COMB), widest_gap((24, [5]))), (7, 24))


class JudgedTest(unittest.TestCase):
    def test_combs(self):
        for comb in sample_combs():
            self.assertIs(is_comb(comb), True, comb)

    def test_pitches(self):
        for pitch in range(-2, 30):
            self.assertIs(is_comb((pitch, [0])), 1 <= pitch <= 24, pitch)

    def test_teeth_within_the_pitch(self):
        for pitch in range(1, 25):
            for tooth in range(-2, 30):
                self.assertIs(is_comb((pitch, [tooth])), 0 <= tooth < pitch, (pitch, tooth))

    def test_values_that_are_no_comb(self):
        for at, (value, _) in enumerate(helpers.NO_COMBS):
            self.assertIs(is_comb(value), False, at)

    def test_devices(self):
        for comb in sample_combs():
            self.assertIs(is_device((comb, FULL)), True, comb)
            self.assertIs(is_device((FULL, comb)), True, comb)
            self.assertIs(is_device((comb, comb)), True, comb)

    def test_values_that_are_no_device(self):
        for at, (value, _) in enumerate(helpers.NO_DEVICES):
            self.assertIs(is_device(value), False, at)
        for at, (value, _) in enumerate(helpers.NO_COMBS):
            self.assertIs(is_device((value, FULL)), False, at)
            self.assertIs(is_device((FULL, value)), False, at)

    def test_a_comb_is_no_device_and_a_device_no_comb(self):
        self.assertIs(is_device(COMB), False)
        self.assertIs(is_comb((COMB, COMB)), False)


class CatchTest(unittest.TestCase):
    def test_catch_below_by_definition(self):
        for comb in sample_combs():
            for number in NEAR + FAR:
                told = catch_below(comb, number)
                self.assertTrue(told <= number and catches_at(comb, told), (comb, number))
                self.assertFalse([k for k in range(told + 1, number + 1) if catches_at(comb, k)], (comb, number))

    def test_catch_above_by_definition(self):
        for comb in sample_combs():
            for number in NEAR + FAR:
                told = catch_above(comb, number)
                self.assertTrue(told >= number and catches_at(comb, told), (comb, number))
                self.assertFalse([k for k in range(number, told) if catches_at(comb, k)], (comb, number))

    def test_a_number_at_which_it_catches_one_more_and_one_less(self):
        comb = (24, [5, 17])
        self.assertEqual([catch_below(comb, number) for number in (4, 5, 6, 16, 17, 18)], [-7, 5, 5, 5, 17, 17])
        self.assertEqual([catch_above(comb, number) for number in (4, 5, 6, 16, 17, 18)], [5, 5, 17, 17, 17, 29])

    def test_all_teeth_and_pitch_one(self):
        for comb in (FULL, (1, [0]), (2, [0, 1])):
            for number in NEAR + FAR:
                self.assertEqual((catch_below(comb, number), catch_above(comb, number)), (number, number))

    def test_forty_digits(self):
        self.assertEqual(catch_below(COMB, GREAT), GREAT - 6)
        self.assertEqual(catch_above(COMB, GREAT), 10 ** 40)
        self.assertEqual(catch_below(COMB, -GREAT), -(10 ** 40))
        self.assertEqual(catch_above(COMB, -GREAT), 3 - 10 ** 40)


class CountTest(unittest.TestCase):
    def test_counts_by_definition(self):
        for comb in sample_combs():
            for least in (-50, -25, -24, -3, -1, 0, 1, 2, 11, 24):
                for length in (0, 1, 2, 3, 7, 23, 24, 25, 50):
                    told = catch_count(comb, least, least + length)
                    slow = len([k for k in range(least, least + length + 1) if catches_at(comb, k)])
                    self.assertEqual(told, slow, (comb, least, length))

    def test_one_number(self):
        for comb in sample_combs():
            for number in NEAR + FAR:
                self.assertEqual(catch_count(comb, number, number), int(catches_at(comb, number)), (comb, number))

    def test_forty_digits(self):
        many = 10 ** 38
        for comb in sample_combs():
            pitch, teeth = comb
            for least, greatest in ((-5, 17), (0, 0), (3, 60), (-40, -30)):
                near = catch_count(comb, least, greatest)
                told = catch_count(comb, least - pitch * many, greatest + pitch * many)
                self.assertEqual(told, near + 2 * many * len(teeth), (comb, least, greatest))
        self.assertEqual(catch_count((1, [0]), -GREAT, GREAT), 2 * GREAT + 1)
        self.assertEqual(catch_count(FULL, -GREAT, 0), 10 ** 40)
        self.assertEqual(catch_count((10, [0]), 1, GREAT), 10 ** 39 - 1)

    def test_indexes_by_definition(self):
        for comb in sample_combs():
            upward = [k for k in range(0, 24 * 13) if catches_at(comb, k)][:12]
            downward = [k for k in range(-1, -24 * 13, -1) if catches_at(comb, k)][:12]
            self.assertEqual([nth_catch(comb, index) for index in range(12)], upward, comb)
            self.assertEqual([nth_catch(comb, -1 - index) for index in range(12)], downward, comb)

    def test_indexes_of_many_digits(self):
        for comb in sample_combs():
            pitch, teeth = comb
            for index in range(-5, 6):
                near = nth_catch(comb, index)
                for many in (10 ** 39, -(10 ** 39), 10 ** 60, -(10 ** 60)):
                    self.assertEqual(nth_catch(comb, index + many * len(teeth)), near + many * pitch, (comb, index))
        self.assertEqual(nth_catch((1, [0]), -GREAT), -GREAT)
        self.assertEqual(nth_catch((24, [23]), GREAT), 24 * 10 ** 40 - 1)


class PlainTest(unittest.TestCase):
    def least_pitch(self, comb):
        catches = [k for k in range(0, 24 * 24) if catches_at(comb, k)]
        for pitch in range(1, 25):
            teeth = [k for k in catches if k < pitch]
            if [k for k in range(0, 24 * 24) if k % pitch in teeth] == catches:
                return pitch, teeth
        raise AssertionError(comb)

    def test_plain_combs_by_definition(self):
        combs = sample_combs() + all_combs(6) + all_combs(8)
        for comb in combs:
            self.assertEqual(plain_comb(comb), self.least_pitch(comb), comb)

    def test_repeated_combs(self):
        for comb in all_combs(1) + all_combs(2) + all_combs(3) + all_combs(4):
            plain = self.least_pitch(comb)
            for times in range(2, 24 // comb[0] + 1):
                pitch, teeth = comb
                again = (pitch * times, [tooth + pitch * k for k in range(times) for tooth in teeth])
                self.assertEqual(plain_comb(again), plain, again)

    def test_edges(self):
        self.assertEqual(plain_comb(FULL), (1, [0]))
        self.assertEqual(plain_comb((1, [0])), (1, [0]))
        self.assertEqual(plain_comb((24, [0])), (24, [0]))
        self.assertEqual(plain_comb((24, [11, 23])), (12, [11]))
        self.assertEqual(plain_comb((24, list(range(23)))), (24, list(range(23))))

    def test_gaps_by_definition(self):
        for comb in sample_combs() + all_combs(6):
            catches = [k for k in range(0, 24 * 3) if catches_at(comb, k)]
            slow = max(high - low for low, high in zip(catches, catches[1:]))
            self.assertEqual(widest_gap(comb), slow, comb)

    def test_gap_edges(self):
        self.assertEqual([widest_gap((pitch, [pitch - 1])) for pitch in range(1, 25)], list(range(1, 25)))
        self.assertEqual((widest_gap(FULL), widest_gap((24, list(range(23))))), (1, 2))
        self.assertEqual([widest_gap((10, teeth)) for teeth in ([0, 9], [0, 1], [4, 5, 6])], [9, 9, 8])


class WrongTest(unittest.TestCase):
    """Wrong arguments: the class of the error and its field, and which argument is told."""

    CALLS = [(catch_below, (1,)), (catch_above, (1,)), (catch_count, (1, 2)), (nth_catch, (1,)), (plain_comb, ()),
             (widest_gap, ())]

    def test_wrong_combs(self):
        for call, others in self.CALLS:
            for at, (value, index) in enumerate(helpers.NO_COMBS):
                error = raised(call, value, *others)
                self.assertIs(type(error), InvalidComb, (call, at))
                self.assertEqual(vars(error), {"index": index}, (call, at))

    def test_wrong_numbers(self):
        for at, value in enumerate(helpers.NO_NUMBERS):
            for call, arguments in ((catch_below, (value,)), (catch_above, (value,)), (nth_catch, (value,)),
                                    (catch_count, (value, 5)), (catch_count, (5, value)),
                                    (catch_count, (value, value))):
                self.assertIs(type(raised(call, COMB, *arguments)), InvalidNumber, (call, at))

    def test_greatest_below_least(self):
        for least, greatest in ((1, 0), (0, -1), (5, 4), (GREAT, GREAT - 1), (GREAT, -GREAT), (0, -20)):
            self.assertIs(type(raised(catch_count, COMB, least, greatest)), InvalidNumber, (least, greatest))

    def test_the_comb_is_told_first(self):
        for call in (catch_below, catch_above, nth_catch):
            for wrong in (None, True, Odd()):
                error = raised(call, (10, [3, 0]), wrong)
                self.assertIs(type(error), InvalidComb)
                self.assertEqual(error.index, 1)
        for least, greatest in ((None, None), (5, 4), (True, 0)):
            error = raised(catch_count, (0, []), least, greatest)
            self.assertIs(type(error), InvalidComb)
            self.assertEqual(error.index, 0)


if __name__ == "__main__":
    unittest.main()
