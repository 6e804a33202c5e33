"""Part 8: devices that are alike [19], and the moves that part them [20]."""

import itertools
import random
import unittest

from tests.helpers import (FULL, FULL_23, GREAT, NARROW, WIDE, all_combs, catches_at, common, held_at, leaped,
                           sample_devices, start_of, stepped)
from twocombs.alike import alike_state, are_alike, parting_moves, plain_device
from twocombs.combs import plain_comb
from twocombs.moving import state_trail

ONE = (1, [0])
DOUBLE = ((20, [2, 5, 12, 15]), (5, [0]))
GREAT_DEVICES = [((24, [0]), (23, [0])), ((23, [4, 21]), (24, [5, 6, 17, 18])), ((24, [0, 7, 8]), FULL_23),
                 (FULL, FULL), ((24, [3]), (24, [3])), (ONE, (24, [11])), ((24, [11]), ONE), ((23, [0]), (24, [0]))]


def begun(device, hand=0, more=0):
    """Return a state with this hand: the first held height, or the one with this number behind it."""
    return held_at(device, hand)[more % len(held_at(device, hand))], hand


def alike_by_steps(device, state, second, start):
    """Tell whether all steps of 1 have the same rises in both devices; all pairs of starts are gone through."""
    seen = set()
    waiting = [(state, start)]
    while waiting:
        one, other = waiting.pop()
        if (start_of(device, one), start_of(second, other)) not in seen:
            seen.add((start_of(device, one), start_of(second, other)))
            for move in (1, -1):
                later = stepped(device, one, move), stepped(second, other, move)
                if later[0][0] - one[0] != later[1][0] - other[0]:
                    return False
                waiting.append(later)
    return True


def rises(device, state, moves):
    """Return the list of the rises of moves."""
    told = []
    for move in moves:
        later = leaped(device, state, move)
        told.append(later[0] - state[0])
        state = later
    return told


def least_parting(device, state, second, start, most):
    """Return the first list of at most two moves that parts both, in the order of [20]; all of them are tried."""
    sizes = [size for size in range(-most, most + 1) if size != 0]
    lists = [[size] for size in sizes] + [[one, other] for one in sizes for other in sizes]
    for moves in sorted(lists, key=lambda moves: (len(moves), sum(map(abs, moves)), moves)):
        if rises(device, state, moves) != rises(second, start, moves):
            return moves
    return None


def shifted(comb, distance, many=1):
    """Return a comb that catches this much higher, with so many times its pitch."""
    pitch, teeth = comb
    teeth = [(tooth + distance) % pitch + part * pitch for part in range(many) for tooth in teeth]
    return pitch * many, sorted(teeth)


def small_cases():
    """Return cases (device, state, second, start) of small combs."""
    draw = random.Random(19)
    combs = [comb for pitch in (1, 2, 3, 4) for comb in all_combs(pitch)] + [(6, [0, 1, 3]), (6, [1, 4]), (5, [0])]
    cases = []
    for _ in range(500):
        device = draw.choice(combs), draw.choice(combs)
        second = draw.choice([device, (draw.choice(combs), device[1]), (device[0], draw.choice(combs))])
        cases.append((device, begun(device, draw.randint(-5, 5), draw.randint(0, 9)),
                      second, begun(second, draw.randint(-5, 5), draw.randint(0, 9))))
    return cases


class ExamplesTest(unittest.TestCase):
    def test_alike(self):
        self.assertIs(are_alike(WIDE, (0, 0), DOUBLE, (2, 2)), False)
        self.assertIs(are_alike(WIDE, (0, 0), ((10, [0, 3]), (10, [4])), (0, -4)), True)
        self.assertIs(are_alike(WIDE, (0, 0), WIDE, (3, 3)), False)

    def test_plain_devices(self):
        self.assertEqual(plain_device(WIDE, (3, 0)), ((10, [0, 7]), (10, [7])))
        self.assertEqual(plain_device(DOUBLE, (2, 2)), ((10, [0, 3]), (5, [0])))

    def test_alike_states(self):
        states = [(0, 0), (13, 10 ** 30), (-10, 0)]
        self.assertEqual([alike_state(WIDE, state) for state in states], [(0, 0), (3, 0), (0, 0)])

    def test_parting(self):
        self.assertEqual(parting_moves(WIDE, (0, 0), ((10, [0, 3]), (5, [0])), (0, 0)), [-5, 1])
        self.assertEqual(parting_moves(WIDE, (0, 0), ((10, [0]), (10, [0])), (0, 0)), [3, -1])
        self.assertEqual(parting_moves(WIDE, (3, 0), WIDE, (0, 0)), [1])
        self.assertIsNone(parting_moves(WIDE, (0, 0), WIDE, (10, -10)))


class AlikeTest(unittest.TestCase):
    def assert_alike(self, device, state, second, start):
        case = (device, state, second, start)
        self.assertIs(alike_by_steps(*case), True, case)
        self.assertIs(are_alike(*case), True, case)
        self.assertIsNone(parting_moves(*case), case)
        self.assertEqual(plain_device(device, state), plain_device(second, start), case)

    def test_all_steps_gone_through(self):
        answers = []
        for case in small_cases():
            answers.append(alike_by_steps(*case))
            self.assertIs(are_alike(*case), answers[-1], case)
            self.assertEqual(plain_device(*case[:2]) == plain_device(*case[2:]), answers[-1])
            self.assertEqual(parting_moves(*case) is None, answers[-1], case)
        self.assertTrue(30 < sum(answers) < 470, sum(answers))

    def test_great_pitches(self):
        for device, second in itertools.product(GREAT_DEVICES, repeat=2):
            for more in (0, 5):
                case = (device, begun(device, 3, more), second, begun(second, -1))
                self.assertIs(are_alike(*case), alike_by_steps(*case), case)
                self.assertEqual(parting_moves(*case) is None, alike_by_steps(*case), case)

    def test_a_device_beside_itself(self):
        for device in sample_devices() + GREAT_DEVICES:
            state = begun(device, 2, 7)
            self.assert_alike(device, state, device, state)
            self.assert_alike(device, state, device, alike_state(device, state))

    def test_combs_of_twice_the_pitch(self):
        for ground, grip in sample_devices():
            for many, times in ((2, 1), (1, 2), (2, 2)):
                if ground[0] * many <= 24 and grip[0] * times <= 24:
                    state = begun((ground, grip), -3, 2)
                    wide = shifted(ground, 0, many), shifted(grip, 0, times)
                    self.assert_alike((ground, grip), state, wide, state)
                    self.assert_alike(wide, state, (ground, grip), state)

    def test_combs_that_are_shifted_with_their_state(self):
        for ground, grip in sample_devices() + GREAT_DEVICES:
            for up, lift in ((1, 0), (0, 1), (5, -3), (GREAT // 2, -GREAT // 4)):
                height, hand = begun((ground, grip), 4, 1)
                second = shifted(ground, up), shifted(grip, lift)
                self.assert_alike((ground, grip), (height, hand), second, (height + up, hand + up - lift))

    def test_states_a_pitch_apart(self):
        for device in sample_devices() + GREAT_DEVICES:
            height, hand = begun(device, 4, 1)
            pitch = common(device)
            for far in (pitch, -pitch, 10 ** 38 * pitch):
                self.assert_alike(device, (height, hand), device, (height + far, hand))
                self.assert_alike(device, (height, hand), device, (height + far, hand - 10 ** 37 * pitch))

    def test_one_tooth_otherwise(self):
        for device in sample_devices() + GREAT_DEVICES:
            state = begun(device)
            for at, (pitch, teeth) in enumerate(device):
                for tooth in range(pitch):
                    others = sorted(set(teeth) ^ {tooth})
                    comb = (pitch, others)
                    second = (comb, device[1]) if at == 0 else (device[0], comb)
                    if others and (catches_at(second[0], state[0]) or catches_at(second[1], state[0])):
                        self.assertFalse(are_alike(device, state, second, state))
                        moves = parting_moves(device, state, second, state)
                        told = rises(device, state, moves), rises(second, state, moves)
                        self.assertNotEqual(*told)
                        self.assertEqual(told[0][:-1], told[1][:-1])

    def test_two_states_of_one_device(self):
        for device in (NARROW, WIDE, ((6, [1, 4]), (4, [0, 2])), (FULL, ONE), ((6, [0, 1]), (4, [3]))):
            states = [(height, hand) for hand in range(5) for height in held_at(device, hand)]
            for one, other in itertools.product(states[::4], states):
                self.assertIs(are_alike(device, one, device, other), alike_by_steps(device, one, device, other))


class PlainTest(unittest.TestCase):
    def test_it_catches_where_the_device_does(self):
        for device in sample_devices() + GREAT_DEVICES:
            height, hand = begun(device, 1, 3)
            for far in (0, 10 ** 36 * common(device), -10 ** 37 * common(device)):
                state = (height + 2 * far, hand + far)
                told = plain_device(device, state)
                for number in range(-30, 60):
                    self.assertIs(catches_at(told[0], number), catches_at(device[0], state[0] + number))
                    self.assertIs(catches_at(told[1], number), catches_at(device[1], state[0] - state[1] + number))
                self.assertEqual(told, (plain_comb(told[0]), plain_comb(told[1])))
                self.assertTrue(alike_by_steps(device, state, told, (0, 0)))
                self.assertEqual(plain_device(told, (0, 0)), told)

    def test_edges(self):
        self.assertEqual(plain_device((FULL, FULL_23), (GREAT, -GREAT)), (ONE, ONE))
        self.assertEqual(plain_device((ONE, (24, [11])), (GREAT, 0)), (ONE, (24, [(11 - GREAT) % 24])))
        self.assertEqual(plain_device(((24, [3]), (24, [3])), (3, 0)), ((24, [0]), (24, [0])))
        self.assertEqual(plain_device(((24, [3, 15]), (2, [0])), (3, 2)), ((12, [0]), (2, [1])))


class AlikeStateTest(unittest.TestCase):
    def test_all_states_gone_through(self):
        devices = [device for device in sample_devices() if common(device) <= 60]
        for device in devices + [((6, [1, 4]), (4, [0, 2])), ((6, [0, 3, 4]), (6, [1, 3, 5])), (FULL, FULL)]:
            for hand in (0, 3, -7):
                state = begun(device, hand, 5)
                height, lift = state[0], state[0] - state[1]
                alike = [(low, place) for low in range(device[0][0]) for place in range(device[1][0])
                         if all(catches_at(device[0], low + more) == catches_at(device[0], height + more)
                                and catches_at(device[1], low - place + more) == catches_at(device[1], lift + more)
                                for more in range(24))]
                self.assertEqual(alike_state(device, state), min(alike), (device, state))
                self.assertTrue(alike_by_steps(device, state, device, min(alike)))

    def test_great_pitches_and_numbers(self):
        for device in GREAT_DEVICES:
            height, hand = begun(device, 5, 9)
            near = alike_state(device, (height, hand))
            far = 10 ** 37 * common(device)
            for state in ((height + far, hand), (height - far, hand), (height, hand - far), (height - far, hand + far)):
                self.assertEqual(alike_state(device, state), near)
            self.assertTrue(are_alike(device, (height, hand), device, near))

    def test_edges(self):
        self.assertEqual(alike_state((FULL, FULL_23), (GREAT, -GREAT)), (0, 0))
        self.assertEqual(alike_state((ONE, ONE), (-5, 7)), (0, 0))
        self.assertEqual(alike_state((ONE, (24, [11])), (-5, 0)), (0, 5))
        self.assertEqual(alike_state(((24, [11]), ONE), (-5, 0)), (19, 0))
        self.assertEqual(alike_state(((24, [3]), (23, [3])), (-21, 0)), (3, 1))

    def test_alike_states_of_alike_states(self):
        for device in sample_devices():
            told = alike_state(device, begun(device, -6, 4))
            self.assertEqual(alike_state(device, told), told)


class PartingTest(unittest.TestCase):
    def test_all_moves_gone_through(self):
        lengths = []
        for case in small_cases()[:250]:
            moves = parting_moves(*case)
            self.assertEqual(moves, least_parting(*case, 9), case)
            lengths.append(0 if moves is None else len(moves))
        self.assertEqual(sorted(set(lengths)), [0, 1, 2])

    def test_greater_sums(self):
        for device, second in [(WIDE, DOUBLE), (WIDE, ((10, [0, 3]), (5, [0]))), (NARROW, ((3, [0]), (15, [0, 5]))),
                               (NARROW, ((3, [0]), (15, [0, 10]))), (((7, [0]), (7, [0])), ((14, [0]), (7, [0]))),
                               (((7, [0]), (9, [0])), ((7, [0, 3]), (9, [0, 4]))), (((9, [0]), ONE), ((18, [0]), ONE)),
                               (((9, [0]), (7, [0])), ((9, [0, 5]), (7, [0, 5]))),
                               (((9, [0, 4]), (8, [0])), ((9, [0, 4]), (8, [0, 4])))]:
            for hand in (0, 1):
                case = (device, begun(device, hand), second, begun(second, hand))
                self.assertEqual(parting_moves(*case), least_parting(*case, 20), case)

    def test_of_equal_sums_the_least_list(self):
        device = ((4, [0]), (4, [0]))
        self.assertEqual(parting_moves(device, (0, 0), ((4, [0, 1]), (4, [0, 1])), (0, 0)), [-1, 1])
        self.assertEqual(parting_moves(device, (0, 0), ((4, [0, 1]), (4, [0])), (0, 0)), [1, -1])
        self.assertEqual(parting_moves(device, (1, 1), device, (0, -1)), [-1])
        self.assertEqual(parting_moves(device, (0, -1), device, (1, 1)), [-1])
        self.assertEqual(parting_moves(device, (0, -1), device, (0, 0)), [1])
        self.assertEqual(parting_moves(((4, [0]), (6, [0])), (0, 0), ((4, [0, 2]), (6, [0, 3])), (0, 0)), [2, -1])

    def test_great_pitches(self):
        for device, second in itertools.product(GREAT_DEVICES, repeat=2):
            for state, start in ((begun(device), begun(second)), (begun(device, 2, 3), begun(second, 5, 1))):
                self.assert_parts(device, state, second, start)

    def assert_parts(self, device, state, second, start):
        moves = parting_moves(device, state, second, start)
        if moves is None:
            self.assertTrue(alike_by_steps(device, state, second, start))
            return
        told = rises(device, state, moves), rises(second, start, moves)
        self.assertEqual(told[0][:-1], told[1][:-1])
        self.assertNotEqual(told[0][-1], told[1][-1])
        total = sum(map(abs, moves))
        for size in list(range(-60, 0)) + list(range(1, 61)):
            if len(moves) == 2 or (abs(size), size) < (total, moves[0]):
                self.assertEqual(rises(device, state, [size]), rises(second, start, [size]))
            for other in range(1, 25):
                pair = [size, -other if size > 0 else other]
                if len(moves) == 2 and (abs(size) + other, pair) < (total, moves):
                    self.assertEqual(rises(device, state, pair), rises(second, start, pair), (device, second, pair))

    def test_a_place_far_away(self):
        # The combs differ only at the remainder 23 of a pitch of 24, and both lie under a slack.
        for at, teeth in enumerate(([0, 23], [0, 1])):
            device, second = ((24, [0]), (24, [0])), ((24, teeth), (24, [0]))
            self.assertEqual(parting_moves(device, (0, 0), second, (0, 0)), [[23, -1], [1, -1]][at])
            device, second = ((24, [0]), (24, [0])), ((24, [0]), (24, teeth))
            self.assertEqual(parting_moves(device, (0, 0), second, (0, 0)), [[-23, 1], [-1, 1]][at])
        self.assertEqual(parting_moves(((23, [0]), (24, [0])), (0, 0), ((24, [0]), (24, [0])), (0, 0)), [23, -1])
        self.assertEqual(parting_moves(((24, [0]), (24, [0])), (0, 24), ((24, [0]), (23, [0])), (0, 23)), [-23, 1])

    def test_great_numbers(self):
        for case in small_cases()[:60]:
            device, (height, hand), second, (other, place) = case
            far, away = 10 ** 38 * common(device), -10 ** 38 * common(second)
            great = (device, (height + far, hand), second, (other + away, place + away))
            self.assertEqual(parting_moves(*great), parting_moves(*case))
            self.assertEqual(are_alike(*great), are_alike(*case))

    def test_either_one_first(self):
        for device, state, second, start in small_cases()[:200]:
            self.assertEqual(parting_moves(device, state, second, start), parting_moves(second, start, device, state))
            self.assertEqual(are_alike(device, state, second, start), are_alike(second, start, device, state))

    def test_told_by_state_trails(self):
        for device, state, second, start in small_cases()[:200]:
            moves = parting_moves(device, state, second, start)
            if moves is not None:
                one = [height - state[0] for height, _ in state_trail(device, state, moves)]
                other = [height - start[0] for height, _ in state_trail(second, start, moves)]
                self.assertEqual(one[:-1], other[:-1])
                self.assertNotEqual(one[-1], other[-1])


if __name__ == "__main__":
    unittest.main()
