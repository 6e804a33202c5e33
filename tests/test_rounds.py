"""Part 3: moves that are done several times [12]."""

import unittest

from tests.helpers import (FULL, FULL_23, GREAT, NARROW, WIDE, held_states, power_rise, repeated, sample_devices,
                           start_of, start_table, stepped)
from twocombs.moving import is_state, moved_state
from twocombs.rounds import far_state, first_time, round_cycle

# Rounds, and moves that do not come to 0.
LISTS = [[], [1], [-1], [7, -7], [-7, 7], [10, -10], [1, -1], [2, -3], [3, -2], [7, -3, 2, -6], [5, 5, -4, -9, 3],
         [-13], [24, -24], [25, -24] * 20, [1] * 40, [-30, 11]]
GREAT_LISTS = [[GREAT], [-GREAT], [GREAT, -GREAT], [10 ** 39 + 7, -5, -(10 ** 39) - 3], [GREAT, -7] * 20,
               [-GREAT, 10 ** 30, 11]]
# A device in which the bar is at 1, 3, 6, 5, 8, 7, 10, 9 .. behind 0, 1, 2 .. times.
DIPPING = (((2, [1]), (4, [1])), (1, -1), [-4, 3])


def unit_times(device, state, moves, times):
    """Return the states behind 0, 1, 2 and more times, all moves unit by unit."""
    states = [state]
    for _ in range(times):
        for move in moves:
            state = stepped(device, state, move)
        states.append(state)
    return states


def found_cycle(device, state, moves):
    """Return (ahead, length, rise) as the states one behind the other show them."""
    states = [state]
    while start_of(device, states[-1]) not in [start_of(device, earlier) for earlier in states[:-1]]:
        states.extend(repeated(device, states[-1], moves, 1)[1:])
    places = [start_of(device, earlier) for earlier in states]
    ahead = places.index(places[-1])
    return ahead, len(states) - 1 - ahead, states[-1][0] - states[ahead][0]


def some_cases(every=1):
    """Return (device, state, moves) for the samples."""
    cases = []
    for at, device in enumerate(sample_devices()):
        for hand in (0, -5):
            states = held_states(device, hand)
            for state in (states[0], states[len(states) // 2], states[-1]):
                cases.extend([(device, state, moves) for moves in LISTS])
    return cases[::every]


class ExamplesTest(unittest.TestCase):
    def test_far_states(self):
        self.assertEqual([far_state(NARROW, (0, 0), [10, -10], times) for times in (0, 1, 2, 3)],
                         [(0, 0), (9, 0), (15, 0), (24, 0)])
        self.assertEqual(far_state(NARROW, (0, 0), [10, -10], 10 ** 30), (75 * 10 ** 29, 0))

    def test_cycles(self):
        self.assertEqual(round_cycle(NARROW, (0, 0), [10, -10]), (0, 2, 15))
        self.assertEqual(round_cycle(NARROW, (3, 0), [7, -7]), (1, 3, 15))
        self.assertEqual(round_cycle(NARROW, (0, 0), [7]), (0, 3, 21))
        self.assertEqual(round_cycle(WIDE, (0, 0), [7, -7]), (1, 1, 0))
        self.assertEqual(round_cycle(WIDE, (0, 0), []), (0, 1, 0))

    def test_first_times(self):
        self.assertEqual([first_time(NARROW, (0, 0), [10, -10], height) for height in (-5, 9, 10, 100, 10 ** 30)],
                         [0, 1, 2, 14, 133333333333333333333333333334])
        self.assertEqual([first_time(WIDE, (0, 0), [7, -7], height) for height in (3, 4)], [1, None])


class FarStateTest(unittest.TestCase):
    def test_unit_by_unit(self):
        for device, state, moves in some_cases(5):
            for times, expected in enumerate(unit_times(device, state, moves, 5)):
                told = far_state(device, state, moves, times)
                self.assertEqual(told, expected, (device, state, moves, times))
                self.assertIs(is_state(device, told), True)

    def test_one_time_behind_the_other(self):
        for device, state, moves in some_cases(7):
            states = repeated(device, state, moves, 60)
            for times in (2, 3, 7, 11, 24, 37, 59, 60):
                self.assertEqual(far_state(device, state, moves, times), states[times], (device, state, moves, times))

    def test_longer_than_the_longest_cycle(self):
        for device, moves in ((((23, [4, 21]), (24, [0])), [24, -24]), ((FULL, FULL_23), [1, -1]),
                              ((FULL, (23, list(range(22)))), [5, -3]), (((24, [7]), (23, [1])), [-1, 26])):
            state = (device[0][1][0], 0)
            states = repeated(device, state, moves, 1200)
            for times in (1, 22, 23, 24, 551, 552, 553, 1199, 1200):
                self.assertEqual(far_state(device, state, moves, times), states[times], (device, moves, times))

    def test_no_times_and_one(self):
        for device, state, moves in some_cases(3):
            self.assertEqual(far_state(device, state, moves, 0), state)
            self.assertEqual(far_state(device, state, moves, 1), moved_state(device, state, moves))

    def test_no_moves(self):
        for times in (0, 1, 2, GREAT, 10 ** 40):
            self.assertEqual(far_state(WIDE, (3, 0), [], times), (3, 0))
            self.assertEqual(far_state(NARROW, (-GREAT - 1, GREAT + 1 - 2 * 10 ** 40), [], times),
                             (-GREAT - 1, GREAT + 1 - 2 * 10 ** 40))

    def test_ten_to_the_fortieth_times(self):
        for device in sample_devices()[::3] + [(FULL, FULL_23)]:
            state = held_states(device, 3)[1]
            for moves in LISTS[1::3] + GREAT_LISTS:
                table = start_table(device, moves)
                for times in (10 ** 40, GREAT, 10 ** 39 + 1):
                    rise = power_rise(table, start_of(device, state), times)
                    expected = (state[0] + rise, state[1] + times * sum(moves))
                    self.assertEqual(far_state(device, state, moves, times), expected, (device, moves, times))

    def test_times_one_behind_the_other_add_up(self):
        for device, state, moves in some_cases(31):
            for first, then in ((3, 10 ** 40), (10 ** 40, 3), (10 ** 39 + 1, 9 * 10 ** 39 - 1)):
                between = far_state(device, state, moves, first)
                self.assertEqual(far_state(device, between, moves, then), far_state(device, state, moves, first + then))

    def test_great_states(self):
        for device, state, moves in some_cases(23):
            up = device[0][0] * (10 ** 38 + 1)
            over = up + device[1][0] * 10 ** 38
            for side in (1, -1):
                height, hand = far_state(device, state, moves, 10 ** 40)
                there = (state[0] + side * up, state[1] + side * over)
                self.assertEqual(far_state(device, there, moves, 10 ** 40), (height + side * up, hand + side * over))

    def test_pitch_one(self):
        device = ((1, [0]), (1, [0]))
        self.assertEqual(far_state(device, (7, 3), [5, -5], 10 ** 40), (5 * 10 ** 40 + 7, 3))
        self.assertEqual(far_state(device, (7, 3), [5, -6], 10 ** 40), (5 * 10 ** 40 + 7, 3 - 10 ** 40))
        self.assertEqual(far_state(device, (7, 3), [-5], 10 ** 40), (7, 3 - 5 * 10 ** 40))


class CycleTest(unittest.TestCase):
    def test_one_time_behind_the_other(self):
        for device, state, moves in some_cases(5):
            expected = found_cycle(device, state, moves)
            self.assertEqual(round_cycle(device, state, moves), expected, (device, state, moves))

    def test_great_moves(self):
        for device in sample_devices()[::4]:
            for state in held_states(device, -2)[:3]:
                for moves in GREAT_LISTS:
                    self.assertEqual(round_cycle(device, state, moves), found_cycle(device, state, moves))

    def test_great_states(self):
        for device, state, moves in some_cases(11):
            up = device[0][0] * 10 ** 38
            there = (state[0] - up, state[1] - up + device[1][0] * 10 ** 37)
            self.assertEqual(round_cycle(device, there, moves), round_cycle(device, state, moves))

    def test_no_moves(self):
        for device in sample_devices():
            for state in held_states(device, 2):
                self.assertEqual(round_cycle(device, state, []), (0, 1, 0))

    def test_all_teeth(self):
        # The bar goes with the hand: both remainders come again behind 552 rounds, and no sooner.
        self.assertEqual(round_cycle((FULL, FULL_23), (0, 0), [1, -1]), (0, 552, 552))
        self.assertEqual(round_cycle((FULL, FULL), (5, 5), [7, -7]), (0, 24, 168))
        self.assertEqual(round_cycle((FULL, FULL), (5, 5), [7]), (0, 24, 168))
        self.assertEqual(round_cycle((FULL, FULL), (5, 5), [-7]), (0, 24, 0))
        self.assertEqual(round_cycle(((1, [0]), (1, [0])), (5, 9), [7, -7, 3]), (0, 1, 10))

    def test_a_bar_that_stays_while_the_hand_goes_on(self):
        # The ground has the bar; the lift comes back to its remainder only with five moves.
        self.assertEqual(round_cycle(NARROW, (0, 0), [-1]), (0, 5, 0))
        self.assertEqual(round_cycle(NARROW, (5, 0), [-1]), (2, 5, 0))

    def test_forty_moves(self):
        self.assertEqual(round_cycle(NARROW, (0, 0), [10, -10] * 20), (0, 1, 150))
        self.assertEqual(round_cycle(NARROW, (0, 0), [1] * 40), (0, 3, 120))


class FirstTimeTest(unittest.TestCase):
    def test_one_time_behind_the_other(self):
        for device, state, moves in some_cases(9):
            ahead, length, rise = found_cycle(device, state, moves)
            reached = [height for height, _ in repeated(device, state, moves, ahead + 4 * length)]
            least, greatest = min(reached), max(reached)
            # What is not reached within four cycles is reached later if, and only if, they raise the bar.
            sure = greatest if rise == 0 else least + 2 * rise
            beside = {one + more for one in reached[:40] + reached[-3 * length:] for more in (-1, 0, 1)}
            for height in sorted([height for height in beside if height <= sure])[:120] + [least - 2, sure]:
                expected = [one >= height for one in reached].index(True)
                told = first_time(device, state, moves, height)
                self.assertEqual(told, expected, (device, state, moves, height))
            if rise == 0:
                for height in (greatest + 1, greatest + 24, GREAT):
                    self.assertIsNone(first_time(device, state, moves, height), (device, state, moves, height))

    def test_at_below_and_above_the_present_height(self):
        for height, times in ((-GREAT, 0), (-1, 0), (0, 0), (1, 1), (6, 1), (7, 2), (12, 2), (13, 3), (15, 3), (16, 4)):
            self.assertEqual(first_time(NARROW, (0, 0), [7, -7], height), times)
        self.assertEqual(first_time(NARROW, (-GREAT, -GREAT), [-1], -GREAT), 0)
        self.assertEqual(first_time(NARROW, (5, 0), [-1], 5), 0)

    def test_what_happens_within_the_moves_does_not_count(self):
        self.assertEqual(first_time(NARROW, (0, 0), [7, -7], 7), 2)
        self.assertIsNone(first_time(WIDE, (0, 0), [7, -7], 7))
        self.assertEqual(first_time(WIDE, (0, 0), [7], 7), 1)

    def test_never(self):
        self.assertIsNone(first_time(NARROW, (0, 0), [6, -6], 10))
        self.assertIsNone(first_time(NARROW, (0, 0), [], 1))
        self.assertIsNone(first_time(NARROW, (0, 0), [-1] * 40, 1))
        self.assertIsNone(first_time(NARROW, (0, 0), [6, -6], GREAT))
        self.assertEqual(first_time(NARROW, (0, 0), [], 0), 0)

    def test_a_bar_that_sinks_from_one_time_to_the_next(self):
        self.assertEqual([height for height, _ in unit_times(*DIPPING, 7)], [1, 3, 6, 5, 8, 7, 10, 9])
        self.assertEqual([first_time(*DIPPING, height) for height in range(0, 13)],
                         [0, 0, 1, 1, 2, 2, 2, 4, 4, 6, 6, 8, 8])
        self.assertEqual([first_time(*DIPPING, 10 ** 40 + more) for more in (-1, 0, 1, 2)],
                         [10 ** 40 - 4, 10 ** 40 - 4, 10 ** 40 - 2, 10 ** 40 - 2])

    def test_a_height_that_is_reached_ahead_of_the_cycle(self):
        # The cycle begins behind six times, at 5, below what is reached behind three.
        device, state, moves = ((4, [0, 1, 3]), (7, [0, 1])), (4, 4), [-6, 2]
        reached = [height for height, _ in unit_times(device, state, moves, 12)]
        self.assertEqual((round_cycle(device, state, moves)[0], reached), (6, [4, 4, 4, 6, 5, 6, 5, 5, 7, 7, 7, 9, 9]))
        self.assertEqual([first_time(device, state, moves, height) for height in (4, 5, 6, 7, 8, 9)],
                         [0, 3, 3, 8, 11, 11])

    def test_a_bar_that_only_sinks(self):
        device, state, moves = ((5, [0]), (1, [0])), (7, 0), [1, -2]
        self.assertEqual([height for height, _ in unit_times(device, state, moves, 4)], [7, 6, 5, 5, 5])
        self.assertEqual([first_time(device, state, moves, height) for height in (4, 7, 8)], [0, 0, None])

    def test_far_heights(self):
        for device, state, moves in some_cases(29):
            ahead, length, rise = round_cycle(device, state, moves)
            for height in (GREAT, 10 ** 39 + 7, 10 ** 30):
                told = first_time(device, state, moves, height)
                self.assertEqual(told is None, rise == 0, (device, state, moves))
                if told is not None:
                    self.assertGreaterEqual(far_state(device, state, moves, told)[0], height)
                    for back in range(1, min(told, ahead + 2 * length) + 1):
                        self.assertLess(far_state(device, state, moves, told - back)[0], height)

    def test_great_states_and_great_moves(self):
        self.assertEqual(first_time(((1, [0]), (1, [0])), (-GREAT, GREAT), [GREAT, -GREAT], GREAT), 2)
        self.assertEqual(first_time(((1, [0]), (1, [0])), (-GREAT, GREAT), [1, -1], GREAT), 2 * GREAT)
        self.assertEqual(first_time(((1, [0]), (1, [0])), (0, 0), [GREAT] * 40, GREAT), 1)
        self.assertEqual(first_time(((1, [0]), (1, [0])), (-GREAT, GREAT), [2, -5], 0), (GREAT + 1) // 2)


if __name__ == "__main__":
    unittest.main()
