"""Part 7: two bars over one hand, and the moves that join them [18]."""

import itertools
import random
import unittest

from tests.helpers import GREAT, NARROW, all_combs, common, held_at, leaped, once, start_of
from twocombs.joining import joining_count, joining_moves, joining_round, parted_by
from twocombs.moving import moved_state

ONE = (1, [0])
EIGHT, SEVEN = (8, list(range(8))), (7, list(range(7)))
SMALL = [NARROW, (ONE, ONE), (ONE, (5, [2])), ((5, [1, 4]), ONE), ((2, [1]), (3, [0])), ((3, [0, 2]), (2, [0])),
         ((2, [0, 1]), (2, [0, 1])), ((3, [1]), (3, [1])), ((4, [0, 1]), (6, [2, 5])), ((2, [0]), (4, [1, 2]))]
GREAT_DEVICES = [((8, [0]), (7, [0])), ((7, [6]), (8, [2])), ((8, [2, 3, 5, 6, 7]), (7, [2, 5])), (EIGHT, SEVEN),
                 ((8, [0, 1, 3, 4, 5, 6, 7]), (7, [0, 2, 3, 5, 6])), ((8, [3]), (8, [3])), ((8, [1, 5]), EIGHT)]


def pairs_at(device, hand):
    """Return all pairs of held heights, the first one within a common pitch and the other one up to two from it."""
    pitch = common(device)
    heights = [height + far for far in (-pitch, 0, pitch) for height in held_at(device, hand)]
    return [(one, other) for one in held_at(device, hand) for other in heights]


def some_pairs(device, hand, many=6):
    """Return some of these pairs, spread over all of them."""
    pairs = pairs_at(device, hand)
    return pairs[::max(1, len(pairs) // many)]


def pair_key(device, hand, one, other):
    """Return what all that is to come for two bars depends on."""
    return start_of(device, (one, hand)), other - one


def fewest_joining(device, hand, one, other, most):
    """Return the fewest moves that join two bars, no move longer than the most; all places are gone through."""
    seen = {pair_key(device, hand, one, other)}
    present = [(hand, one, other)]
    for count in itertools.count():
        if not present:
            return None
        if any(first == second for _, first, second in present):
            return count
        later = []
        for place, first, second in present:
            for move in [size for size in range(-most, most + 1) if size != 0]:
                new = (place + move, leaped(device, (first, place), move)[0], leaped(device, (second, place), move)[0])
                if pair_key(device, *new) not in seen:
                    seen.add(pair_key(device, *new))
                    later.append(new)
        present = later


def rounds_done(device, hand, one, other, moves, most):
    """Return the number of rounds behind which two bars are at one height, None if there are more than the most."""
    for times in range(most + 1):
        if one == other:
            return times
        one, other = [once(device, (height, hand), moves)[0] for height in (one, other)]
    return None


def drawn_round(draw):
    """Return a round of some drawn moves."""
    moves = [draw.choice([-1, 1]) * draw.choice([1, 2, 3, 5, 8, 20, 10 ** 39]) for _ in range(draw.randint(1, 5))]
    return moves + [-sum(moves)] if sum(moves) != 0 else moves


class ExamplesTest(unittest.TestCase):
    def test_counts(self):
        pairs = ((0, 3), (0, 5), (5, 0), (3, 3), (0, 15))
        self.assertEqual([joining_count(NARROW, 0, one, other) for one, other in pairs], [1, 2, 2, 0, None])

    def test_parted(self):
        cases = [(0, 3, [4]), (0, 5, [-5]), (0, 5, [-5, 3]), (5, 0, [7, -7]), (0, 15, [4])]
        self.assertEqual([parted_by(NARROW, 0, *case) for case in cases], [0, 3, 0, -6, 15])

    def test_moves(self):
        self.assertEqual(joining_moves(NARROW, 0, 3, 3), [])
        self.assertEqual(len(joining_moves(NARROW, 0, 0, 5)), 2)
        self.assertIsNone(joining_moves(NARROW, 0, 0, 30))

    def test_rounds(self):
        pairs = ((0, 3), (0, 5), (6, 6))
        self.assertEqual([joining_round(NARROW, 0, one, other, [7, -7]) for one, other in pairs], [1, None, 0])


class CountTest(unittest.TestCase):
    def assert_joined(self, device, hand, one, other, count):
        moves = joining_moves(device, hand, one, other)
        self.assertEqual(joining_count(device, hand, one, other), count, (device, hand, one, other))
        if count is None:
            self.assertIsNone(moves)
        else:
            self.assertEqual(len(moves), count)
            self.assertNotIn(0, moves)
            ends = [once(device, (height, hand), moves) for height in (one, other)]
            self.assertEqual(ends[0], ends[1], (device, hand, one, other, moves))

    def test_all_lists_of_moves_gone_through(self):
        sizes = [size for size in range(-12, 13) if size != 0]
        for device in SMALL[:8]:
            for one, other in pairs_at(device, 1):
                lists = [moves for count in (0, 1, 2) for moves in itertools.product(sizes, repeat=count)]
                counts = [len(moves) for moves in lists
                          if once(device, (one, 1), moves) == once(device, (other, 1), moves)]
                told = joining_count(device, 1, one, other)
                self.assertEqual(told if told is None or told < 3 else None, min(counts, default=None))

    def test_all_places_gone_through(self):
        for device in SMALL:
            for hand in (0, -2):
                for one, other in pairs_at(device, hand)[::3]:
                    self.assert_joined(device, hand, one, other, fewest_joining(device, hand, one, other, 14))

    def test_all_small_combs(self):
        combs = all_combs(3) + all_combs(2)
        for device in itertools.product(combs, combs):
            for one, other in pairs_at(device, 1)[::4]:
                self.assert_joined(device, 1, one, other, fewest_joining(device, 1, one, other, 7))

    def test_great_pitches(self):
        for device in GREAT_DEVICES:
            heights = held_at(device, 3)
            pairs = [(heights[0], heights[-1]), (heights[-1], heights[0]), (heights[1], heights[0] + common(device))]
            for one, other in pairs:
                self.assert_joined(device, 3, one, other, fewest_joining(device, 3, one, other, 17))

    def test_longer_than_moves_may_be(self):
        device = ((8, [0, 1, 3, 4, 5, 6, 7]), (7, [0, 2, 3, 5, 6]))
        self.assert_joined(device, 0, 0, 55, 62)
        self.assert_joined(((8, [2, 3, 4, 7]), (7, [0, 2, 4, 6])), 0, 2, 56, 41)

    def test_at_one_height(self):
        for device in SMALL + GREAT_DEVICES:
            for hand in (0, 5, GREAT, -GREAT):
                for height in held_at(device, hand)[:3]:
                    self.assert_joined(device, hand, height, height, 0)
                    self.assertEqual(joining_moves(device, hand, height, height), [])
                    self.assertEqual(joining_round(device, hand, height, height, [5, -5]), 0)
                    self.assertEqual(parted_by(device, hand, height, height, [5, -7]), 0)

    def test_a_common_pitch_apart_and_farther(self):
        for device in SMALL + GREAT_DEVICES:
            pitch = common(device)
            for hand in (0, 3):
                for one in held_at(device, hand):
                    for other in [one + pitch, one - pitch, one + 10 * pitch, one + 10 ** 37 * pitch]:
                        self.assert_joined(device, hand, one, other, None)
                        self.assertIsNone(joining_round(device, hand, one, other, [9, -9]))
                        self.assertEqual(parted_by(device, hand, one, other, [9, -12, 4]), other - one)

    def test_between_one_common_pitch_and_two(self):
        for device in SMALL + GREAT_DEVICES:
            pitch = common(device)
            for one, other in pairs_at(device, 2):
                if abs(other - one) > pitch:
                    self.assert_joined(device, 2, one, other, None)

    def test_either_one_first(self):
        for device in SMALL + GREAT_DEVICES:
            for one, other in some_pairs(device, 1, 12):
                self.assertEqual(joining_count(device, 1, one, other), joining_count(device, 1, other, one))
                self.assertEqual(parted_by(device, 1, one, other, [4, -9]), -parted_by(device, 1, other, one, [4, -9]))

    def test_great_and_negative_numbers(self):
        for device in SMALL + GREAT_DEVICES:
            for far in (10 ** 38 * common(device), -10 ** 38 * common(device)):
                for one, other in some_pairs(device, 1):
                    count = joining_count(device, 1, one, other)
                    self.assert_joined(device, 1, one + far, other + far, count)
                    self.assert_joined(device, 1 + far, one, other, count)
                    self.assert_joined(device, 1 - far, one + far, other + far, count)
                    rounds = joining_round(device, 1, one, other, [6, -6])
                    self.assertEqual(joining_round(device, 1 + far, one, other, [6, -6]), rounds)
                    self.assertEqual(joining_round(device, 1, one + far, other + far, [6, -6]), rounds)

    def test_bars_that_never_join(self):
        self.assertIsNone(joining_count((EIGHT, EIGHT), 0, 0, 1))
        self.assertIsNone(joining_count((EIGHT, SEVEN), 0, 0, 55))
        self.assertEqual(joining_count((ONE, (5, [2])), 0, 0, 4), fewest_joining((ONE, (5, [2])), 0, 0, 4, 20))


class RoundTest(unittest.TestCase):
    def test_one_round_behind_the_other(self):
        draw = random.Random(18)
        joined = []
        for device in SMALL + GREAT_DEVICES:
            most = common(device) * 3
            for _ in range(40):
                hand = draw.randint(-9, 9)
                one, other = draw.choice(held_at(device, hand)), draw.choice(held_at(device, hand))
                moves = drawn_round(draw)
                expected = rounds_done(device, hand, one, other, moves, most)
                joined.append(expected)
                self.assertEqual(joining_round(device, hand, one, other, moves), expected)
        self.assertTrue({0, 1, 2, 3, None} <= set(joined))

    def test_many_rounds(self):
        device, found = ((7, [6]), (8, [2])), []
        for hand in (0, 3):
            for one, other in itertools.product(held_at(device, hand), repeat=2):
                for span in (13, 14, 15, 16):
                    expected = rounds_done(device, hand, one, other, [span, -span], 60)
                    self.assertEqual(joining_round(device, hand, one, other, [span, -span]), expected)
                    found.append(expected or 0)
        self.assertGreaterEqual(max(found), 5)

    def test_a_round_that_joins_needs_no_fewer_moves_than_the_fewest(self):
        for device in SMALL + GREAT_DEVICES:
            for one, other in pairs_at(device, 0)[::5]:
                times = joining_round(device, 0, one, other, [9, -4, 3, -8])
                if times is not None:
                    self.assertLessEqual(joining_count(device, 0, one, other), 4 * times)

    def test_forty_moves(self):
        moves = [3, -3] * 20
        for device in SMALL:
            for one, other in pairs_at(device, 0)[::7]:
                self.assertEqual(joining_round(device, 0, one, other, moves),
                                 rounds_done(device, 0, one, other, moves, 60))


class PartedTest(unittest.TestCase):
    def test_move_by_move(self):
        draw = random.Random(7)
        for device in SMALL + GREAT_DEVICES:
            for _ in range(60):
                hand = draw.choice([0, 3, -4, GREAT, -GREAT])
                one, other = [draw.choice(held_at(device, hand)) + draw.choice([0, 0, 1, -10 ** 36]) * common(device)
                              for _ in range(2)]
                sizes = [draw.choice([1, 2, 3, 7, 30, 10 ** 39]) for _ in range(draw.randint(0, 9))]
                moves = [draw.choice([-1, 1]) * size for size in sizes]
                ends = [once(device, (height, hand), moves)[0] for height in (one, other)]
                self.assertEqual(parted_by(device, hand, one, other, moves), ends[1] - ends[0])

    def test_no_moves(self):
        for device in SMALL + GREAT_DEVICES:
            for one, other in pairs_at(device, 1)[::9]:
                self.assertEqual(parted_by(device, 1, one, other, []), other - one)

    def test_the_joining_moves_part_by_nothing(self):
        for device in SMALL + GREAT_DEVICES:
            for one, other in some_pairs(device, -1, 12):
                moves = joining_moves(device, -1, one, other)
                if moves is not None and len(moves) <= 40:
                    self.assertEqual(parted_by(device, -1, one, other, moves), 0)
                    self.assertEqual(moved_state(device, (one, -1), moves), moved_state(device, (other, -1), moves))
                    for many in range(len(moves)):
                        self.assertNotEqual(parted_by(device, -1, one, other, moves[:many]), 0)


if __name__ == "__main__":
    unittest.main()
