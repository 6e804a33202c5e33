"""Part 6: the greatest heights within a reach [16], the fewest moves to a height and the least of them [17]."""

import itertools
import random
import unittest

from tests.helpers import FULL, FULL_23, GREAT, NARROW, WIDE, common, held_at, leaped, once, sample_devices
from twocombs.best import best_height, best_heights, best_moves, fewest_moves
from twocombs.moving import moved_state, state_trail

ONE = (1, [0])
SMALL = [NARROW, WIDE, (ONE, ONE), ((2, [1]), (3, [0])), ((3, [0, 2]), (2, [0])), ((4, [0, 1]), (6, [2, 5])),
         ((5, [1, 4]), ONE), (ONE, (5, [2])), ((2, [0, 1]), (2, [0, 1])), ((3, [1]), (3, [1])), ((2, [0]), (4, [1, 2]))]
GREAT_DEVICES = [((24, [0]), (23, [0])), ((23, [4, 21]), (24, [5, 6, 17, 18])), ((24, [0, 7, 8]), FULL_23),
                 (FULL, FULL), ((24, [3]), (24, [3])), (ONE, (24, [11])), ((24, [11]), ONE)]


def begun(device, hand, more=0):
    """Return a state with this hand: the first held height, or the one with this number behind it."""
    return held_at(device, hand)[more % len(held_at(device, hand))], hand


def levels(device, state, reach, count):
    """Return for 0, 1, 2 and more moves all states behind at most so many, each move done from each of them."""
    rows = [{state}]
    for _ in range(count):
        more = set(rows[-1])
        for height, hand in rows[-1]:
            for goal in range(reach + 1):
                if goal != hand:
                    more.add(leaped(device, (height, hand), goal - hand))
        rows.append(more)
    return rows


def all_states(device, state, reach, height):
    """Return all states that moves within a reach lead to, or some of them as soon as one has this height."""
    found = {state}
    waiting = [state]
    while waiting and max(found)[0] < height:
        present = waiting.pop()
        for goal in range(reach + 1):
            if goal != present[1]:
                reached = leaped(device, present, goal - present[1])
                if reached not in found:
                    found.add(reached)
                    waiting.append(reached)
    return found


def best_of(states, reach):
    """Return the greatest height of these states at each hand, None where none is."""
    return [max([height for height, place in states if place == hand], default=None) for hand in range(reach + 1)]


def all_lists(state, reach, count):
    """Return all lists of so many moves within a reach."""
    hand = state[1]
    lists = []
    for hands in itertools.product(range(reach + 1), repeat=count):
        moves = [goal - place for place, goal in zip((hand,) + hands, hands)]
        if 0 not in moves:
            lists.append(moves)
    return lists


def least_lists(device, state, reach, count):
    """Return for 0, 1, 2 and more moves a dict from each state just behind so many to the least list leading there."""
    rows = [{state: []}]
    for _ in range(count):
        row = {}
        for (height, hand), moves in rows[-1].items():
            for goal in range(reach + 1):
                if goal != hand:
                    reached = leaped(device, (height, hand), goal - hand)
                    longer = moves + [goal - hand]
                    row[reached] = min(row.get(reached, longer), longer)
        rows.append(row)
    return rows


def least_of(rows, height):
    """Return the first and least list of such rows that leads to a height or above it, None if none does."""
    for row in rows:
        lists = [moves for (reached, _), moves in row.items() if reached >= height]
        if lists:
            return min(lists)
    return None


class ExamplesTest(unittest.TestCase):
    def test_best_heights(self):
        self.assertEqual([best_heights(NARROW, (0, 0), 7, count) for count in (0, 2, 3)],
                         [[0] + [None] * 7, [6, 6, 6, 6, 6, 6, 6, 7], [6, 6, 7, 8, 9, 10, 11, 12]])

    def test_best_height(self):
        self.assertEqual([best_height(NARROW, (0, 0), 7, count) for count in (0, 1, 2, 3, 5)], [0, 7, 7, 12, 17])
        self.assertEqual(best_height(NARROW, (0, 0), 3, 200), 3)

    def test_fewest_moves(self):
        self.assertEqual([fewest_moves(NARROW, (0, 0), 7, height) for height in (0, 7, 8, 13)], [0, 1, 3, 5])
        self.assertIsNone(fewest_moves(NARROW, (0, 0), 3, 4))

    def test_best_moves(self):
        self.assertEqual([best_moves(NARROW, (0, 0), 7, height) for height in (-5, 7, 8)], [[], [7], [6, -6, 3]])
        self.assertIsNone(best_moves(NARROW, (0, 0), 3, 4))


class HeightsTest(unittest.TestCase):
    def test_all_states_gone_through(self):
        for device in SMALL:
            for reach in (1, 2, 5):
                for hand in sorted({0, 1, reach}):
                    for more in (0, 1):
                        state = begun(device, hand, more)
                        for count, states in enumerate(levels(device, state, reach, 7)):
                            told = best_heights(device, state, reach, count)
                            self.assertEqual(told, best_of(states, reach), (device, state, reach, count))
                            self.assertEqual(best_height(device, state, reach, count), max(max(states)[0], state[0]))

    def test_all_lists_of_moves_gone_through(self):
        for device in SMALL:
            state = begun(device, 1)
            for count in (1, 2, 3):
                heights = [state[0]] + [once(device, state, moves)[0] for many in range(1, count + 1)
                                        for moves in all_lists(state, 4, many)]
                self.assertEqual(best_height(device, state, 4, count), max(heights), (device, count))

    def test_samples_and_great_pitches(self):
        for device in sample_devices()[::5] + GREAT_DEVICES:
            for reach, hand in ((24, 0), (24, 24), (9, 3)):
                state = begun(device, hand, 3)
                for count, states in enumerate(levels(device, state, reach, 2)):
                    self.assertEqual(best_heights(device, state, reach, count), best_of(states, reach))

    def test_no_moves(self):
        for device in SMALL + GREAT_DEVICES:
            for reach, hand in ((1, 0), (1, 1), (24, 0), (24, 24), (24, 11)):
                state = begun(device, hand)
                expected = [None] * (reach + 1)
                expected[hand] = state[0]
                self.assertEqual(best_heights(device, state, reach, 0), expected)
                self.assertEqual(best_height(device, state, reach, 0), state[0])

    def test_one_move_leads_to_each_hand(self):
        for device in SMALL + GREAT_DEVICES:
            state = begun(device, 4)
            told = best_heights(device, state, 24, 1)
            expected = [state[0] if goal == 4 else moved_state(device, state, [goal - 4])[0] for goal in range(25)]
            self.assertEqual(told, expected)

    def test_more_moves_never_lead_less_high(self):
        for device in SMALL + GREAT_DEVICES:
            for reach in (3, 24):
                rows = [best_heights(device, begun(device, 2), reach, count) for count in range(1, 9)]
                for less, more in zip(rows, rows[1:]):
                    self.assertTrue(all(low <= high for low, high in zip(less, more)))

    def test_great_and_negative_heights(self):
        for device in SMALL + GREAT_DEVICES:
            for count in (0, 1, 5):
                near = best_heights(device, begun(device, 2), 6, count)
                best = best_height(device, begun(device, 2), 6, count)
                for far in (common(device), -common(device), 10 ** 38 * common(device), -10 ** 38 * common(device)):
                    state = (begun(device, 2)[0] + far, 2)
                    expected = [None if height is None else height + far for height in near]
                    self.assertEqual(best_heights(device, state, 6, count), expected)
                    self.assertEqual(best_height(device, state, 6, count), best + far)

    def test_the_greatest_reach_and_count(self):
        self.assertEqual(best_height((FULL, FULL), (0, 0), 24, 200), 24 * 100)
        self.assertEqual(best_heights((FULL, FULL), (0, 0), 24, 199), [99 * 24 + hand for hand in range(25)])
        self.assertEqual(best_height(((24, [0]), (24, [0])), (0, 0), 24, 200), 24 * 100)
        self.assertEqual(best_height(((24, [0]), (24, [0])), (0, 0), 23, 200), 23)
        far = GREAT // 24 * 24
        self.assertEqual(best_height(((24, [0]), (24, [0])), (far, 0), 24, 200), far + 2400)
        for device in GREAT_DEVICES:
            told = best_heights(device, begun(device, 0), 24, 200)
            states = {(height, hand) for hand, height in enumerate(best_heights(device, begun(device, 0), 24, 199))}
            self.assertEqual(told, best_of(states | {leaped(device, state, hand - state[1]) for state in states
                                                     for hand in range(25) if hand != state[1]}, 24))

    def test_a_reach_of_one(self):
        self.assertEqual(best_heights((ONE, ONE), (7, 0), 1, 5), [9, 10])
        self.assertEqual(best_heights((ONE, ONE), (7, 1), 1, 5), [9, 9])
        self.assertEqual(best_heights(NARROW, (0, 0), 1, 200), [0, 1])
        self.assertEqual(best_heights(NARROW, (-3, 1), 1, 0), [None, -3])
        self.assertEqual(best_heights(NARROW, (-3, 1), 1, 1), [-3, -3])


class FewestTest(unittest.TestCase):
    def test_all_lists_of_moves_gone_through(self):
        for device in SMALL:
            for hand in (0, 3, 4):
                state = begun(device, hand)
                lists = [[[]]] + [all_lists(state, 4, count) for count in (1, 2, 3, 4)]
                ends = [[(once(device, state, moves)[0], moves) for moves in row] for row in lists]
                for height in range(state[0] - 3, state[0] + 9):
                    found = [[moves for reached, moves in row if reached >= height] for row in ends]
                    fewest = [count for count, row in enumerate(found) if row]
                    if fewest:
                        self.assertEqual(fewest_moves(device, state, 4, height), fewest[0])
                        self.assertEqual(best_moves(device, state, 4, height), min(found[fewest[0]]))
                    else:
                        told = fewest_moves(device, state, 4, height)
                        self.assertTrue(told is None or told > 4)

    def test_the_least_list_to_each_state(self):
        for device in SMALL + GREAT_DEVICES[:3]:
            for reach, hand in ((2, 0), (7, 7), (8, 3), (24, 5)):
                state = begun(device, hand, 1)
                rows = least_lists(device, state, reach, 6 if reach < 10 else 3)
                for height in range(state[0] - 2, state[0] + 30):
                    expected = least_of(rows, height)
                    told = best_moves(device, state, reach, height)
                    if expected is not None:
                        self.assertEqual(told, expected, (device, state, reach, height))
                        self.assertEqual(fewest_moves(device, state, reach, height), len(expected))
                    else:
                        self.assertTrue(told is None or len(told) >= len(rows), (device, state, reach, height))

    def test_as_best_height_tells(self):
        for device in SMALL + GREAT_DEVICES:
            for reach in (1, 3, 12, 24):
                state = begun(device, 1)
                heights = [best_height(device, state, reach, count) for count in range(25)]
                for height in range(state[0] - 1, state[0] + 40):
                    counts = [count for count, best in enumerate(heights) if best >= height]
                    told = fewest_moves(device, state, reach, height)
                    if counts:
                        self.assertEqual(told, counts[0], (device, reach, height))
                    else:
                        self.assertTrue(told is None or told >= 25, (device, reach, height))

    def test_the_moves_lead_there(self):
        draw = random.Random(16)
        for device in SMALL + GREAT_DEVICES + sample_devices()[::3]:
            for _ in range(6):
                reach = draw.randint(1, 24)
                state = begun(device, draw.randint(0, reach), draw.randint(0, 50))
                height = state[0] + draw.choice([1, 5, 30, 200, draw.randint(-9, 200)])
                moves = best_moves(device, state, reach, height)
                if moves is None:
                    self.assertIsNone(fewest_moves(device, state, reach, height))
                    self.assertLess(best_height(device, state, reach, 200), height)
                else:
                    self.assertEqual(fewest_moves(device, state, reach, height), len(moves))
                    present = state
                    for move in moves:
                        self.assertNotEqual(move, 0)
                        present = leaped(device, present, move)
                        self.assertTrue(0 <= present[1] <= reach)
                    self.assertGreaterEqual(present[0], height)

    def test_no_single_move_can_be_less(self):
        for device in SMALL + GREAT_DEVICES:
            for reach in (6, 24):
                state = begun(device, 0)
                moves = best_moves(device, state, reach, state[0] + 25)
                for at, move in enumerate(moves or []):
                    before = moved_state(device, state, moves[:at])
                    for goal in range(before[1] + move):
                        if goal != before[1]:
                            other = leaped(device, before, goal - before[1])
                            rest = fewest_moves(device, other, reach, state[0] + 25)
                            self.assertTrue(rest is None or rest > len(moves) - at - 1)

    def test_at_below_and_above_the_present_height(self):
        for device in SMALL + GREAT_DEVICES:
            for far in (0, -common(device) * 10 ** 37, common(device) * 10 ** 37):
                height, hand = begun(device, 2)
                state = (height + far, hand)
                for goal in (state[0], state[0] - 1, state[0] - 200, -GREAT):
                    self.assertEqual(fewest_moves(device, state, 5, goal), 0)
                    self.assertEqual(best_moves(device, state, 5, goal), [])
                told = best_moves(device, state, 24, state[0] + 1)
                self.assertEqual(told, best_moves(device, (height, hand), 24, height + 1))
                self.assertEqual(fewest_moves(device, state, 24, state[0] + 1), len(told))

    def test_two_hundred_above(self):
        self.assertEqual(fewest_moves((ONE, ONE), (0, 0), 1, 200), 399)
        self.assertEqual(best_moves((ONE, ONE), (0, 0), 1, 200), [1, -1] * 199 + [1])
        self.assertEqual(best_moves((ONE, ONE), (-GREAT, 1), 1, 200 - GREAT), [-1, 1] * 200)
        self.assertEqual(fewest_moves(((24, [0]), (24, [0])), (0, 0), 24, 200), 17)
        self.assertEqual(best_moves(((24, [0]), (24, [0])), (0, 0), 24, 200), [24, -24] * 8 + [8])
        self.assertEqual(best_moves((FULL, FULL), (GREAT, 0), 24, GREAT + 200), [8, -8] + [24, -24] * 7 + [24])

    def test_never(self):
        found = 0
        for device in SMALL:
            for hand in (0, 1):
                for reach in (1, 2, 4):
                    state = begun(device, hand)
                    states = all_states(device, state, reach, state[0] + 12)
                    greatest = max(height for height, _ in states)
                    if greatest < state[0] + 12:
                        found += 1
                        for call in (fewest_moves, best_moves):
                            self.assertIsNone(call(device, state, reach, greatest + 1))
                            self.assertIsNone(call(device, state, reach, state[0] + 200))
                            self.assertIsNotNone(call(device, state, reach, greatest))
                        self.assertEqual(best_height(device, state, reach, 200), greatest)
        self.assertGreater(found, 20)

    def test_never_with_great_pitches(self):
        for call in (fewest_moves, best_moves):
            self.assertIsNone(call(((24, [0]), (24, [0])), (0, 0), 23, 24))
            self.assertIsNone(call(((24, [3]), (24, [3])), (24 * 10 ** 38 + 3, 0), 23, 24 * 10 ** 38 + 27))
            self.assertIsNone(call(((24, [0]), (23, [0])), (0, 0), 22, 200))
            self.assertIsNone(call(((24, [0]), (23, [0])), (0, 0), 1, GREAT))

    def test_from_a_state_behind_moves(self):
        state = state_trail(NARROW, (0, 0), [7, -3])[-1]
        self.assertEqual(best_height(NARROW, state, 7, 0), state[0])
        self.assertEqual([best_height(NARROW, state, 7, count) for count in range(4)], [6, 7, 12, 12])
        self.assertEqual([fewest_moves(NARROW, state, 7, height) for height in (6, 7, 8, 12, 13)], [0, 1, 2, 2, 4])


if __name__ == "__main__":
    unittest.main()
