"""Part 5: pumping [15]."""

import unittest
from fractions import Fraction

from tests.helpers import (FULL, FULL_23, GREAT, NARROW, WIDE, common, held_at, repeated, sample_devices,
                           smaller_devices)
from twocombs.means import mean_rise
from twocombs.spans import climbing_span, span_for, span_rise, span_rows

HANDS = (0, 1, -4, GREAT, -GREAT)
GREAT_DEVICES = [((24, [0]), (23, [0])), ((23, [4, 21]), (24, [5, 6, 17, 18])), ((24, [0, 7, 8]), FULL_23),
                 (FULL, FULL), ((24, [3]), (24, [3])), ((1, [0]), (24, [11])), ((24, [11]), (1, [0]))]
GREAT_FRACTIONS = [(GREAT, 1), (10 ** 39, 7), (GREAT, 10 ** 30), (10 ** 39 + 1, 10 ** 37 - 1), (GREAT, GREAT),
                   (GREAT - 1, GREAT), (GREAT, GREAT - 1), (1, GREAT), (2, GREAT)]


def pumped_mean(device, hand, span):
    """Return the mean rise of a pump as a fraction, as rounds that are done one by one show it."""
    pitch = common(device)
    heights = [device[0][1][0]]
    places = []
    while heights[-1] % pitch not in places:
        places.append(heights[-1] % pitch)
        heights.append(repeated(device, (heights[-1], hand), [span, -span], 1)[1][0])
    ahead = places.index(heights[-1] % pitch)
    return Fraction(heights[-1] - heights[ahead], len(places) - ahead)


def pumped_means(device, hand, many):
    """Return the mean rises of the spans 0 to many; a span of 0 stands for no pumping at all."""
    return [Fraction(0)] + [pumped_mean(device, hand, span) for span in range(1, many + 1)]


def last_span(device):
    """Return the sum of the common pitch and the greater pitch."""
    return common(device) + max(device[0][0], device[1][0])


def least_with(means, fraction):
    """Return the least span from 1 on whose mean rise is at least the fraction, all spans asked one by one."""
    return [span for span in range(1, len(means)) if means[span] >= fraction][0]


def rows_of(means):
    """Return a row with the least span for each mean rise above 0."""
    rows = []
    for span, mean in enumerate(means):
        if mean > 0 and mean not in means[:span]:
            rows.append((span, mean.numerator, mean.denominator))
    return rows


def small_cases():
    """Return (device, hand) with few heights within a common pitch."""
    return [(device, hand) for device in smaller_devices() if common(device) <= 60 for hand in (0, -3)]


class ExamplesTest(unittest.TestCase):
    def test_rises(self):
        self.assertEqual([span_rise(WIDE, 0, span) for span in (7, 10, 13, 20)], [(0, 1), (10, 1), (10, 1), (20, 1)])
        self.assertEqual([span_rise(NARROW, 0, span) for span in (6, 7, 10, 10 ** 30)],
                         [(0, 1), (5, 1), (15, 2), (1999999999999999999999999999995, 2)])

    def test_climbing_spans(self):
        self.assertEqual([climbing_span(WIDE, 0), climbing_span(NARROW, 0)], [10, 7])

    def test_rows(self):
        self.assertEqual(span_rows(WIDE, 0), [(10, 10, 1), (20, 20, 1)])
        self.assertEqual(span_rows(NARROW, 0), [(7, 5, 1), (10, 15, 2), (12, 10, 1), (15, 15, 1)])

    def test_spans_for_fractions(self):
        fractions = [(-3, 1), (1, 9), (15, 2), (8, 1), (16, 1)]
        self.assertEqual([span_for(NARROW, 0, top, bottom) for top, bottom in fractions], [1, 7, 10, 12, 22])


class SpanRiseTest(unittest.TestCase):
    def test_one_round_behind_the_other(self):
        for device, hand in small_cases():
            for span, mean in enumerate(pumped_means(device, hand, 50)[1:], 1):
                told = span_rise(device, hand, span)
                self.assertEqual(told, (mean.numerator, mean.denominator), (device, hand, span))
                self.assertIs(type(told), tuple)

    def test_as_the_round(self):
        for device in sample_devices():
            for hand in HANDS:
                for span in (1, 2, 23, 24, 47, 100, GREAT):
                    self.assertEqual(span_rise(device, hand, span), mean_rise(device, hand, [span, -span]))

    def test_great_pitches(self):
        for device in GREAT_DEVICES:
            for hand in (0, -GREAT):
                for span in (1, 22, 23, 24, 45, 46, 47, 100, 551, 552, 553):
                    mean = pumped_mean(device, hand, span)
                    self.assertEqual(span_rise(device, hand, span), (mean.numerator, mean.denominator))

    def test_great_spans(self):
        for device in smaller_devices()[::3] + GREAT_DEVICES:
            for hand in (0, GREAT):
                # The span and a common pitch more raise the bar by a common pitch more.
                for span in (GREAT, 10 ** 39, 10 ** 39 + 17):
                    cycles = (span - 100) // common(device)
                    mean = pumped_mean(device, hand, span - cycles * common(device)) + cycles * common(device)
                    self.assertEqual(span_rise(device, hand, span), (mean.numerator, mean.denominator))
                    self.assertEqual(pumped_mean(device, hand, span), mean)

    def test_a_span_of_one(self):
        self.assertEqual(span_rise(NARROW, 0, 1), (0, 1))
        self.assertEqual(span_rise(((1, [0]), (1, [0])), GREAT, 1), (1, 1))
        self.assertEqual(span_rise((FULL, FULL_23), -GREAT, 1), (1, 1))
        self.assertEqual(span_rise(((24, list(range(0, 24, 2))), FULL_23), 0, 1), (0, 1))


class ClimbingTest(unittest.TestCase):
    def test_one_round_behind_the_other(self):
        for device, hand in small_cases() + [(device, 5) for device in GREAT_DEVICES]:
            means = pumped_means(device, hand, 48)
            expected = [span for span in range(1, 49) if means[span] > 0][0]
            self.assertEqual(climbing_span(device, hand), expected, (device, hand))

    def test_at_it_and_one_below(self):
        for device in sample_devices() + GREAT_DEVICES:
            for hand in HANDS:
                told = climbing_span(device, hand)
                self.assertGreater(span_rise(device, hand, told)[0], 0, (device, hand))
                for span in range(1, told):
                    self.assertEqual(span_rise(device, hand, span), (0, 1), (device, hand, span))

    def test_edges(self):
        self.assertEqual(climbing_span(((1, [0]), (1, [0])), 0), 1)
        self.assertEqual(climbing_span((FULL, FULL_23), GREAT), 1)
        self.assertEqual([climbing_span(((24, [0]), (24, [0])), hand) for hand in (0, 1, 2, -1, 12)],
                         [24, 47, 46, 25, 36])
        self.assertEqual(climbing_span(((24, [0]), (23, [0])), 0), 46)


class RowsTest(unittest.TestCase):
    def test_one_round_behind_the_other(self):
        for device, hand in small_cases():
            rows = rows_of(pumped_means(device, hand, last_span(device)))
            self.assertEqual(span_rows(device, hand), rows, (device, hand))

    def test_great_hands(self):
        for device, hand in small_cases()[::7]:
            for great in (GREAT, -GREAT):
                rows = rows_of(pumped_means(device, great, last_span(device)))
                self.assertEqual(span_rows(device, great), rows, (device, great))

    def test_great_pitches(self):
        for device in GREAT_DEVICES[:2]:
            rows = rows_of(pumped_means(device, 7, last_span(device)))
            self.assertEqual(span_rows(device, 7), rows, device)

    def test_edges(self):
        self.assertEqual(span_rows(((1, [0]), (1, [0])), 3), [(1, 1, 1), (2, 2, 1)])
        self.assertEqual(span_rows((FULL, FULL), 3), [(span, span, 1) for span in range(1, 49)])
        self.assertEqual(span_rows((FULL, FULL_23), 3), [(span, span, 1) for span in range(1, 577)])
        self.assertEqual(span_rows(((24, [0]), (24, [0])), 0), [(24, 24, 1), (48, 48, 1)])
        self.assertEqual(span_rows(((24, [0]), (24, [0])), 1), [(47, 24, 1)])

    def test_kinds_and_order(self):
        for device in GREAT_DEVICES + [WIDE, NARROW]:
            rows = span_rows(device, 2)
            self.assertEqual(rows, sorted(rows))
            self.assertEqual(rows[0][0], climbing_span(device, 2))
            self.assertEqual({type(row) for row in rows}, {tuple})
            for span, top, bottom in rows:
                self.assertEqual((top, bottom), span_rise(device, 2, span))
            self.assertEqual(len({(top, bottom) for _, top, bottom in rows}), len(rows))


class SpanForTest(unittest.TestCase):
    def test_one_round_behind_the_other(self):
        for device, hand in small_cases():
            means = pumped_means(device, hand, 110)
            fractions = sorted(set(means))[:12] + [Fraction(top, bottom) for top in range(1, 25) for bottom in (1, 4)]
            for mean in [fraction for fraction in fractions if fraction < means[-1]]:
                for beside in (Fraction(0), Fraction(1, 10 ** 6), Fraction(-1, 10 ** 6)):
                    fraction = mean + beside
                    told = span_for(device, hand, fraction.numerator, fraction.denominator)
                    self.assertEqual(told, least_with(means, fraction), (device, hand, fraction))

    def test_at_a_mean_rise_and_just_beside_it(self):
        for device in sample_devices()[::4] + GREAT_DEVICES:
            for hand in (0, GREAT, -GREAT):
                rows = span_rows(device, hand)
                for (span, top, bottom), (later, _, _) in list(zip(rows, rows[1:]))[:40]:
                    many = GREAT // (10 * max(top, bottom))
                    self.assertEqual(span_for(device, hand, top, bottom), span)
                    self.assertEqual(span_for(device, hand, top * many, bottom * many), span)
                    self.assertEqual(span_for(device, hand, top * many - 1, bottom * many), span)
                    self.assertEqual(span_for(device, hand, top * many + 1, bottom * many), later)

    def test_great_fractions(self):
        for device in sample_devices()[::3] + GREAT_DEVICES:
            for hand in (0, -GREAT):
                for top, bottom in GREAT_FRACTIONS:
                    told = span_for(device, hand, top, bottom)
                    self.assertGreaterEqual(Fraction(*span_rise(device, hand, told)), Fraction(top, bottom))
                    for span in range(max(1, told - 60), told):
                        self.assertLess(Fraction(*span_rise(device, hand, span)), Fraction(top, bottom))

    def test_zero_and_below(self):
        for device in sample_devices() + GREAT_DEVICES:
            for top, bottom in ((0, 1), (0, GREAT), (-1, 1), (-1, GREAT), (-GREAT, 1), (-GREAT, GREAT), (-3, 2)):
                self.assertEqual(span_for(device, 1, top, bottom), 1)

    def test_just_above_zero(self):
        for device in sample_devices() + GREAT_DEVICES:
            for hand in (0, GREAT):
                self.assertEqual(span_for(device, hand, 1, GREAT), climbing_span(device, hand))

    def test_a_common_divisor_does_not_matter(self):
        for top, bottom in ((15, 2), (16, 1), (1, 9)):
            for many in (2, 10, 10 ** 37):
                self.assertEqual(span_for(NARROW, 0, top * many, bottom * many), span_for(NARROW, 0, top, bottom))

    def test_one_tooth_and_all_teeth(self):
        self.assertEqual([span_for(((1, [0]), (1, [0])), 0, top, 3) for top in (1, 2, 3, 4, GREAT)],
                         [1, 1, 1, 2, GREAT // 3])
        self.assertEqual([span_for(((24, [0]), (24, [0])), 1, top, 1) for top in (1, 24, 25, 48, 49)],
                         [47, 47, 71, 71, 95])


class SteadyTest(unittest.TestCase):
    def test_a_longer_span_never_climbs_less(self):
        for device in sample_devices():
            if len(held_at(device, 0)) <= 100:
                means = [Fraction(*span_rise(device, 6, span)) for span in range(1, last_span(device) + 20)]
                self.assertEqual(means, sorted(means), device)


if __name__ == "__main__":
    unittest.main()
