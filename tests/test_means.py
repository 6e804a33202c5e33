"""Part 4: mean rises of rounds, and the heights at which the bar stays [8], [13], [14]."""

import unittest
from fractions import Fraction

from tests.helpers import (FULL, FULL_23, GREAT, NARROW, WIDE, common, held_at, power_rise, repeated, sample_devices,
                           smaller_devices, start_of, start_table, stepped)
from twocombs.means import held_heights, lasting_heights, mean_rise, settling_rounds, stuck_heights
from twocombs.rounds import far_state

ROUNDS = [[1, -1], [3, -3], [-4, 4], [7, -7], [10, -10], [7, -3, 2, -6], [-9, 14, -5], [23, -23], [-24, 24], [30, -30],
          [5, 5, -4, -9, 3], [25, -24, -1] * 13, [3, -3] * 20]
GREAT_ROUNDS = [[GREAT, -GREAT], [-GREAT, GREAT], [10 ** 39 + 7, -5, -(10 ** 39) - 2], [GREAT, -7, 7, -GREAT] * 10,
                [10 ** 30, -(10 ** 39), 10 ** 39 - 10 ** 30]]
HANDS = (0, 1, -1, 13, GREAT, -GREAT)


def walk(device, hand, table, height):
    """Return the heights behind 0, 1, 2 and more rounds, up to the first one whose remainder came before."""
    pitch = common(device)
    heights = []
    seen = set()
    while height % pitch not in seen:
        seen.add(height % pitch)
        heights.append(height)
        height += table[start_of(device, (height, hand))][1]
    return heights + [height]


def walk_cycle(device, heights):
    """Return how many rounds are ahead of the cycle in a walk, how many are in it, and by how much they raise."""
    pitch = common(device)
    ahead = [height % pitch for height in heights].index(heights[-1] % pitch)
    return ahead, len(heights) - 1 - ahead, heights[-1] - heights[ahead]


def walk_mean(device, heights):
    """Return the mean rise of a walk."""
    _, many, rise = walk_cycle(device, heights)
    mean = Fraction(rise, many)
    return mean.numerator, mean.denominator


class ExamplesTest(unittest.TestCase):
    def test_mean_rises(self):
        self.assertEqual([mean_rise(NARROW, 0, [span, -span]) for span in (6, 7, 10, 10 ** 30)],
                         [(0, 1), (5, 1), (15, 2), (1999999999999999999999999999995, 2)])
        self.assertEqual((mean_rise(NARROW, 0, [7, -3, 2, -6]), mean_rise(NARROW, 4, [-7, 7]),
                          mean_rise(WIDE, 0, [13, -13])), ((5, 1), (5, 1), (10, 1)))

    def test_held_heights(self):
        self.assertEqual((held_heights(NARROW, 0), held_heights(NARROW, 1), held_heights(((1, [0]), (2, [0])), 7)),
                         ([0, 3, 5, 6, 9, 10, 12], [0, 1, 3, 6, 9, 11, 12], [0, 1]))

    def test_stuck_heights(self):
        self.assertEqual([stuck_heights(NARROW, 0, [span, -span]) for span in (3, 6, 7)], [[3, 6, 9, 12], [9], []])

    def test_lasting_heights_and_settling_rounds(self):
        self.assertEqual([lasting_heights(NARROW, 0, [span, -span]) for span in (6, 7, 10)], [[9], [0, 6, 12], [0, 9]])
        self.assertEqual([settling_rounds(NARROW, 0, [span, -span]) for span in (6, 7, 10)], [3, 1, 2])


class MeanRiseTest(unittest.TestCase):
    def test_one_round_behind_the_other_from_all_held_heights(self):
        for device in smaller_devices():
            for moves in ROUNDS:
                table = start_table(device, moves)
                for hand in (0, 3, -5):
                    told = mean_rise(device, hand, moves)
                    for height in held_at(device, hand):
                        walked = walk_mean(device, walk(device, hand, table, height))
                        self.assertEqual(told, walked, (device, hand, moves, height))

    def test_unit_by_unit(self):
        # Behind many rounds the bar is less than a common pitch away from where the mean rise would have it.
        for device in smaller_devices()[::5]:
            for moves in ROUNDS[:8]:
                top, bottom = mean_rise(device, 2, moves)
                state = (device[0][1][0], 2)
                for _ in range(200):
                    for move in moves:
                        state = stepped(device, state, move)
                self.assertLess(abs((state[0] - device[0][1][0]) * bottom - 200 * top), bottom * common(device))

    def test_great_pitches(self):
        for device in ((FULL, FULL_23), (FULL_23, FULL), (FULL, FULL), ((24, [3]), (23, [8])), (FULL, (23, [4, 21])),
                       ((24, [0, 7]), (23, list(range(22)))), ((1, [0]), (24, [11])), ((24, [11]), (1, [0]))):
            for moves in [[1, -1], [22, -22], [47, -47], [25, -24, -1] * 13]:
                table = start_table(device, moves)
                for hand in HANDS:
                    told = mean_rise(device, hand, moves)
                    for height in held_at(device, hand)[::29]:
                        walked = walk_mean(device, walk(device, hand, table, height))
                        self.assertEqual(told, walked, (device, hand, moves, height))

    def test_great_moves(self):
        for device in smaller_devices()[::3] + [(FULL, FULL_23), (FULL_23, (24, [5, 6, 18]))]:
            for moves in GREAT_ROUNDS:
                table = start_table(device, moves)
                for hand in HANDS:
                    height = held_at(device, hand)[-1]
                    walked = walk_mean(device, walk(device, hand, table, height))
                    self.assertEqual(mean_rise(device, hand, moves), walked, (device, hand, moves))

    def test_far_behind(self):
        times = 10 ** 40
        for device in (WIDE, NARROW, ((24, [3, 4]), (7, [6])), ((23, [1, 8, 9]), (24, [5, 6, 17, 18]))):
            for moves in ROUNDS + GREAT_ROUNDS:
                top, bottom = mean_rise(device, 1, moves)
                state = (device[0][1][0], 1)
                rise = power_rise(start_table(device, moves), start_of(device, state), times)
                self.assertLess(abs(rise * bottom - times * top), bottom * common(device), (device, moves))
                self.assertEqual(far_state(device, state, moves, times)[0] - state[0], rise)

    def test_the_tuple(self):
        for device in sample_devices():
            for moves in ROUNDS + GREAT_ROUNDS:
                told = mean_rise(device, 5, moves)
                self.assertIs(type(told), tuple)
                top, bottom = told
                self.assertGreaterEqual(top, 0)
                self.assertEqual((Fraction(top, bottom).numerator, Fraction(top, bottom).denominator), told)

    def test_no_rise(self):
        for moves in ([1, -1], [-1, 1], [6, -6], [3, -3] * 20, [2, -1, -1]):
            self.assertEqual(mean_rise(NARROW, 0, moves), (0, 1))

    def test_no_integer(self):
        self.assertEqual(mean_rise(NARROW, 0, [8, -8]), (5, 1))
        self.assertEqual(mean_rise(NARROW, 0, [10, -10]), (15, 2))
        self.assertEqual(mean_rise(NARROW, 0, [11, -11]), (15, 2))
        self.assertEqual(mean_rise(((2, [0]), (3, [0])), 0, [4, -4]), (3, 1))
        self.assertEqual(mean_rise(((4, [0]), (3, [0, 1])), 0, [5, -5]), (4, 1))

    def test_equal_combs_and_pitch_one(self):
        self.assertEqual([mean_rise(((1, [0]), (1, [0])), 3, [span, -span]) for span in (1, 2, GREAT)],
                         [(1, 1), (2, 1), (GREAT, 1)])
        self.assertEqual([mean_rise((FULL, FULL), 3, [span, -span]) for span in (1, 24, GREAT)],
                         [(1, 1), (24, 1), (GREAT, 1)])
        self.assertEqual([mean_rise(((5, [2]), (5, [2])), 0, [span, -span]) for span in (4, 5, 9, 10)],
                         [(0, 1), (5, 1), (5, 1), (10, 1)])
        self.assertEqual([mean_rise(((5, [2]), (5, [2])), 1, [span, -span]) for span in (5, 8, 9)],
                         [(0, 1), (0, 1), (5, 1)])

    def test_the_hand_matters(self):
        table = start_table(WIDE, [10, -10])
        for hand in range(-10, 11):
            told = mean_rise(WIDE, hand, [10, -10])
            self.assertEqual(told, walk_mean(WIDE, walk(WIDE, hand, table, 0)))
            self.assertEqual(told, (10, 1) if hand % 10 in (0, 3) else (0, 1))
            self.assertEqual(mean_rise(WIDE, hand + 10 ** 39, [10, -10]), told)


class HeldTest(unittest.TestCase):
    def test_by_definition(self):
        for device in sample_devices():
            for hand in HANDS:
                self.assertEqual(held_heights(device, hand), held_at(device, hand), (device, hand))

    def test_edges(self):
        self.assertEqual(held_heights(((1, [0]), (1, [0])), GREAT), [0])
        self.assertEqual(held_heights((FULL, FULL_23), -GREAT), list(range(552)))
        self.assertEqual(held_heights(((24, [0]), (24, [0])), 0), [0])
        self.assertEqual(held_heights(((24, [0]), (24, [0])), -1), [0, 23])
        self.assertEqual(len(held_heights(((24, [0]), (23, [0])), 5)), 23 + 24 - 1)
        self.assertEqual(held_heights(((4, [1]), (6, [0])), 0), [0, 1, 5, 6, 9])


class SettlingTest(unittest.TestCase):
    """Stuck heights, lasting heights and settling rounds, held against walks from all held heights."""

    def assert_settling(self, device, hand, moves):
        table = start_table(device, moves)
        walks = {height: walk(device, hand, table, height) for height in held_at(device, hand)}
        stuck = [height for height, heights in walks.items() if heights[1] == height]
        ahead = {height: walk_cycle(device, heights)[0] for height, heights in walks.items()}
        note = (device, hand, moves)
        self.assertEqual(stuck_heights(device, hand, moves), stuck, note)
        self.assertEqual(lasting_heights(device, hand, moves), [one for one in ahead if ahead[one] == 0], note)
        self.assertEqual(settling_rounds(device, hand, moves), max(ahead.values()), note)

    def test_one_round_behind_the_other(self):
        for device in smaller_devices():
            for moves in ROUNDS:
                for hand in (0, -7):
                    self.assert_settling(device, hand, moves)

    def test_great_hands_and_great_moves(self):
        for device in smaller_devices()[::5]:
            for moves in GREAT_ROUNDS + ROUNDS[2:4]:
                for hand in (GREAT, -GREAT):
                    self.assert_settling(device, hand, moves)

    def test_great_pitches(self):
        for device in ((FULL, FULL_23), ((24, [0]), (23, [0])), ((23, [4, 21]), (24, [5, 6, 17, 18])),
                       ((24, [0, 7, 8]), FULL_23), (FULL, FULL), ((24, list(range(23))), (23, list(range(22))))):
            for moves in ([1, -1], [30, -30], [25, -24, -1] * 13):
                self.assert_settling(device, 4, moves)

    def test_unit_by_unit(self):
        for hand in (0, 3):
            for moves in ROUNDS[:8]:
                stuck = []
                for height in held_at(NARROW, hand):
                    state = (height, hand)
                    for move in moves:
                        state = stepped(NARROW, state, move)
                    if state == (height, hand):
                        stuck.append(height)
                self.assertEqual(stuck_heights(NARROW, hand, moves), stuck)

    def test_the_same_remainder_higher_up_is_not_the_same_height(self):
        device = ((1, [0]), (1, [0]))
        self.assertEqual(stuck_heights(device, 0, [1, -1]), [])
        self.assertEqual(lasting_heights(device, 0, [1, -1]), [0])
        self.assertEqual(settling_rounds(device, 0, [1, -1]), 0)
        self.assertEqual(stuck_heights(NARROW, 0, [15, -15] * 20), [])
        self.assertEqual(stuck_heights(((5, [0]), (5, [0])), 0, [5, -5]), [])
        self.assertEqual(lasting_heights(((5, [0]), (5, [0])), 0, [5, -5]), [0])

    def test_lasting_heights_are_those_behind_many_rounds(self):
        for device in (WIDE, NARROW, ((8, [0, 3]), (7, [6]))):
            for moves in ROUNDS:
                rounds = settling_rounds(device, 1, moves)
                for times in (rounds, rounds + 1, rounds + 50):
                    behind = {repeated(device, (height, 1), moves, times)[-1][0] % common(device)
                              for height in held_at(device, 1)}
                    self.assertEqual(sorted(behind), lasting_heights(device, 1, moves))
                if rounds:
                    behind = {repeated(device, (height, 1), moves, rounds - 1)[-1][0] % common(device)
                              for height in held_at(device, 1)}
                    self.assertNotEqual(sorted(behind), lasting_heights(device, 1, moves))


if __name__ == "__main__":
    unittest.main()
