"""Part 2: states and moves [6], [7], [9], [11]."""

import unittest

from tests import helpers
from tests.helpers import FULL, GREAT, NARROW, WIDE, catches_at, held_states, raised, sample_devices, stepped
from twocombs.errors import InvalidDevice, InvalidMoves, InvalidState
from twocombs.moving import is_state, joined_moves, mirror_device, mirror_state, moved_state, state_trail

LISTS = [[], [1], [-1], [5, -5], [3, 4, -2, -5, 1], [24, -24, 23, -23], [-1, -1, -1, 2, 2], [7, -7, 7, -6, 9, -30, 2],
         [1] * 40, [-1] * 40, [25, -24] * 20, [3, 3, -4, -1] * 10]


class ExamplesTest(unittest.TestCase):
    def test_the_first_device(self):
        self.assertEqual([state_trail(WIDE, (0, 0), moves) for moves in ([7, -7], [10, -10])],
                         [[(7, 7), (3, 0)], [(10, 10), (10, 0)]])
        self.assertEqual(state_trail(WIDE, (3, 0), [2, 5, -7]), [(3, 2), (7, 7), (3, 0)])

    def test_trails(self):
        self.assertEqual(state_trail(WIDE, (0, 0), [7, -7, 7]), [(7, 7), (3, 0), (7, 7)])
        self.assertEqual(state_trail(NARROW, (0, 0), [10, -10, 10, -10]), [(10, 10), (9, 0), (15, 10), (15, 0)])

    def test_moved_states(self):
        self.assertEqual(moved_state(WIDE, (0, 0), [-25, 4]), (0, -21))
        self.assertEqual(moved_state(NARROW, (0, 0), []), (0, 0))
        self.assertEqual(moved_state(NARROW, (5, 0), [10 ** 30]), (10 ** 30 + 5, 10 ** 30))

    def test_is_state(self):
        values = ((0, 0), (3, 0), (5, 0), (5, 5), [0, 0], (True, 0), None)
        self.assertEqual([is_state(WIDE, value) for value in values], [True, True, False, True, False, False, False])

    def test_joined_and_mirrored(self):
        self.assertEqual((joined_moves([3, 4, -2, -5, 1]), joined_moves([])), ([7, -7, 1], []))
        self.assertEqual((mirror_device(NARROW), mirror_state((9, 2))), (((5, [0]), (3, [0])), (7, -2)))

    def test_errors(self):
        self.assertIs(type(raised(moved_state, WIDE, (5, 0), [1])), InvalidState)
        error = raised(moved_state, WIDE, (0, 0), [1, 0])
        self.assertIs(type(error), InvalidMoves)
        self.assertEqual(error.index, 1)


class StateTest(unittest.TestCase):
    def test_by_definition(self):
        for device in sample_devices():
            ground, grip = device
            for hand in (0, 1, -1, 13, -26, GREAT, -GREAT):
                for height in list(range(-30, 31)) + [GREAT, GREAT - 1, -GREAT, hand, hand + 5]:
                    held = catches_at(ground, height) or catches_at(grip, height - hand)
                    self.assertIs(is_state(device, (height, hand)), held, (device, height, hand))

    def test_held_by_one_comb_alone(self):
        device = ((10, [3]), (7, [2]))
        self.assertIs(is_state(device, (13, 0)), True)
        self.assertIs(is_state(device, (9, 0)), True)
        self.assertIs(is_state(device, (9, 1)), False)
        self.assertIs(is_state(device, (10, 1)), True)
        self.assertIs(is_state(device, (2, 3)), False)

    def test_values_that_are_no_state(self):
        full = (FULL, FULL)
        for at, value in enumerate(helpers.NO_WHOLE_PAIRS):
            self.assertIs(is_state(full, value), False, at)


class MoveTest(unittest.TestCase):
    def test_moves_by_steps(self):
        for device in sample_devices():
            for hand in (0, 4):
                for state in held_states(device, hand):
                    for move in (1, -1, 2, -2, 5, -7, 11, -13, 23, -23, 24, -24, 25, -25, 50):
                        told = moved_state(device, state, [move])
                        self.assertEqual(told, stepped(device, state, move), (device, state, move))
                        self.assertIs(is_state(device, told), True)

    def test_trails_by_steps(self):
        for device in sample_devices():
            for state in held_states(device, -3)[:6]:
                for moves in LISTS:
                    present = state
                    trail = []
                    for move in moves:
                        present = stepped(device, present, move)
                        trail.append(present)
                    self.assertEqual(state_trail(device, state, moves), trail, (device, state, moves))
                    self.assertEqual(moved_state(device, state, moves), present, (device, state, moves))

    def test_no_moves(self):
        for device in sample_devices():
            for state in held_states(device, 2):
                self.assertEqual(moved_state(device, state, []), state)
                self.assertEqual(state_trail(device, state, []), [])

    def test_a_move_up_just_as_long_as_the_slack(self):
        self.assertEqual([moved_state(WIDE, (3, 0), [move]) for move in (2, 3, 4)], [(3, 2), (3, 3), (4, 4)])
        device = ((24, [23]), (24, [0]))
        self.assertEqual([moved_state(device, (23, 0), [move]) for move in (22, 23, 24)],
                         [(23, 22), (23, 23), (24, 24)])

    def test_a_move_down_just_as_long_as_the_slack(self):
        self.assertEqual([moved_state(WIDE, (7, 7), [-move]) for move in (3, 4, 5)], [(4, 4), (3, 3), (3, 2)])
        device = ((24, [0]), (24, [23]))
        self.assertEqual([moved_state(device, (23, 0), [-move]) for move in (22, 23, 24)],
                         [(1, -22), (0, -23), (0, -24)])

    def test_pitch_one(self):
        device = ((1, [0]), (1, [0]))
        self.assertEqual(state_trail(device, (7, 3), [5, -5, 5, -1]), [(12, 8), (12, 3), (17, 8), (17, 7)])

    def test_below_zero(self):
        self.assertEqual(state_trail(NARROW, (-3, -8), [-1, -10, 7]), [(-3, -9), (-3, -19), (3, -12)])
        self.assertEqual(state_trail(NARROW, (-4, -4), [-1, -1, -1, 2]), [(-5, -5), (-6, -6), (-6, -7), (-5, -5)])


class GreatMoveTest(unittest.TestCase):
    def test_great_moves_up(self):
        for device in sample_devices():
            for state in held_states(device, 1):
                height, hand = stepped(device, state, 24)
                for move in (GREAT, 10 ** 39 + 1, 10 ** 30):
                    self.assertEqual(moved_state(device, state, [move]), (height + move - 24, hand + move - 24))

    def test_great_moves_down(self):
        for device in sample_devices():
            for state in held_states(device, 1):
                height, hand = stepped(device, state, -24)
                for move in (GREAT, 10 ** 39 + 1, 10 ** 30):
                    self.assertEqual(moved_state(device, state, [-move]), (height, hand - move + 24))

    def test_great_states(self):
        for device in sample_devices():
            ground, grip = device
            for state in held_states(device, 0)[:5]:
                for many, lifts in ((10 ** 38, 1), (-(10 ** 38), 3 - 10 ** 37), (7, 10 ** 38), (-4, -(10 ** 38))):
                    up = ground[0] * many
                    over = up - grip[0] * lifts
                    far = (state[0] + up, state[1] + over)
                    self.assertIs(is_state(device, far), True)
                    for moves in ([5], [-5], [24, -11, 3, -30]):
                        trail = [(height + up, hand + over) for height, hand in state_trail(device, state, moves)]
                        self.assertEqual(state_trail(device, far, moves), trail, (device, far, moves))

    def test_forty_great_moves(self):
        moves = [GREAT, -GREAT] * 20
        self.assertEqual(moved_state(((1, [0]), (1, [0])), (0, 0), moves), (20 * GREAT, 0))
        told = state_trail(NARROW, (0, 0), moves)
        self.assertEqual(len(told), 40)
        # Each great move up ends in the grip, each one down in the ground; the rest is slack.
        height = 0
        for up, down in zip(told[::2], told[1::2]):
            lifted = height - height % 5 + GREAT
            height = lifted - lifted % 3
            self.assertEqual((up, down), ((lifted, GREAT), (height, 0)))


class JoinedTest(unittest.TestCase):
    def test_neighbours(self):
        self.assertEqual(joined_moves([1, 2, 3]), [6])
        self.assertEqual(joined_moves([-1, -2, -3]), [-6])
        self.assertEqual(joined_moves([5, -5]), [5, -5])
        self.assertEqual(joined_moves([5, -5, 5, -5]), [5, -5, 5, -5])
        self.assertEqual(joined_moves([-1, 1, 1, -1, -1, -1, 1]), [-1, 2, -3, 1])
        self.assertEqual(joined_moves([7]), [7])

    def test_forty_moves(self):
        self.assertEqual(joined_moves([1] * 40), [40])
        self.assertEqual(joined_moves([-2] * 40), [-80])
        self.assertEqual(joined_moves([1, -1] * 20), [1, -1] * 20)
        self.assertEqual(joined_moves([GREAT] * 39 + [-GREAT]), [39 * GREAT, -GREAT])

    def test_they_lead_to_the_same_state(self):
        for moves in LISTS:
            joined = joined_moves(moves)
            self.assertFalse([1 for one, two in zip(joined, joined[1:]) if one * two > 0], moves)
            self.assertEqual(sum(joined), sum(moves))
            for device in sample_devices():
                for state in held_states(device, 1)[:8]:
                    self.assertEqual(moved_state(device, state, joined), moved_state(device, state, moves))


class MirrorTest(unittest.TestCase):
    def test_devices(self):
        self.assertEqual(mirror_device(WIDE), ((10, [0]), (10, [0, 3])))
        for device in sample_devices():
            self.assertEqual(mirror_device(device), (device[1], device[0]))

    def test_states(self):
        self.assertEqual([mirror_state(state) for state in ((0, 0), (3, -20), (-3, 5), (1, 1))],
                         [(0, 0), (23, 20), (-8, -5), (0, -1)])
        self.assertEqual(mirror_state((GREAT, -GREAT)), (2 * GREAT, GREAT))

    def test_opposite_moves_lead_to_the_mirrored_state(self):
        for device in sample_devices():
            mirrored = mirror_device(device)
            for state in held_states(device, 2):
                self.assertIs(is_state(mirrored, mirror_state(state)), True)
                self.assertEqual(mirror_state(mirror_state(state)), state)
                for moves in ([4, -9, 2], [-3, 30, -1, -1], [GREAT, -GREAT, 5]):
                    trail = [mirror_state(later) for later in state_trail(device, state, moves)]
                    opposite = [-move for move in moves]
                    self.assertEqual(state_trail(mirrored, mirror_state(state), opposite), trail)


class WrongTest(unittest.TestCase):
    """Wrong arguments: the class of the error and its field, and which argument is told."""

    def assert_told(self, error, kind, index, note):
        self.assertIs(type(error), kind, note)
        self.assertEqual(vars(error), {"index": index}, note)

    def test_wrong_devices(self):
        for at, (value, index) in enumerate(helpers.NO_DEVICES):
            for call, others in ((is_state, ((0, 0),)), (moved_state, ((0, 0), [])), (state_trail, ((0, 0), [])),
                                 (mirror_device, ())):
                self.assert_told(raised(call, value, *others), InvalidDevice, index, (call, at))

    def test_wrong_combs_in_devices(self):
        for at, (value, _) in enumerate(helpers.NO_COMBS):
            for call, others in ((is_state, ((0, 0),)), (moved_state, ((0, 0), [])), (state_trail, ((0, 0), [])),
                                 (mirror_device, ())):
                self.assert_told(raised(call, (value, FULL), *others), InvalidDevice, 0, (call, at))
                self.assert_told(raised(call, (FULL, value), *others), InvalidDevice, 1, (call, at))
                self.assert_told(raised(call, (value, value), *others), InvalidDevice, 0, (call, at))

    def test_wrong_states(self):
        for call in (moved_state, state_trail):
            for at, value in enumerate(helpers.NO_WHOLE_PAIRS):
                self.assertIs(type(raised(call, (FULL, FULL), value, [1])), InvalidState, (call, at))
            for value in ((1, 0), (2, 0), (14, 1), (-1, 0), (GREAT - 1, 0)):
                self.assertIs(type(raised(call, WIDE, value, [1])), InvalidState, (call, value))

    def test_wrong_states_to_mirror(self):
        for at, value in enumerate(helpers.NO_WHOLE_PAIRS):
            self.assertIs(type(raised(mirror_state, value)), InvalidState, at)

    def test_wrong_moves(self):
        for at, (value, index) in enumerate(helpers.NO_MOVES):
            for call, others in ((moved_state, (WIDE, (0, 0))), (state_trail, (WIDE, (0, 0))), (joined_moves, ())):
                self.assert_told(raised(call, *others, value), InvalidMoves, index, (call, at))

    def test_wrong_items_of_moves(self):
        for at, value in enumerate(helpers.NO_NUMBERS + [0]):
            for ahead in range(3):
                moves = [5, -5, 5][:ahead] + [value, value]
                for call, others in ((moved_state, (WIDE, (0, 0))), (state_trail, (WIDE, (0, 0))), (joined_moves, ())):
                    self.assert_told(raised(call, *others, moves), InvalidMoves, ahead, (call, at))

    def test_forty_moves_and_one_more(self):
        for call, others in ((moved_state, (WIDE, (0, 0))), (state_trail, (WIDE, (0, 0))), (joined_moves, ())):
            self.assertIsNone(raised(call, *others, [1] * 40))
            self.assert_told(raised(call, *others, [1] * 41), InvalidMoves, None, call)
            self.assert_told(raised(call, *others, [0] + [1] * 40), InvalidMoves, None, call)

    def test_the_first_wrong_argument_is_told(self):
        for call in (moved_state, state_trail):
            self.assert_told(raised(call, (WIDE[0], None), (5, 0), [0]), InvalidDevice, 1, call)
            self.assert_told(raised(call, None, None, None), InvalidDevice, None, call)
            self.assert_told(raised(call, (None, WIDE[1]), (0, 0), [0]), InvalidDevice, 0, call)
            self.assertIs(type(raised(call, WIDE, (5, 0), [0])), InvalidState)
            self.assertIs(type(raised(call, WIDE, None, None)), InvalidState)
            self.assert_told(raised(call, WIDE, (3, 0), [0]), InvalidMoves, 0, call)
        self.assert_told(raised(is_state, (WIDE[0], None), None), InvalidDevice, 1, is_state)


if __name__ == "__main__":
    unittest.main()
