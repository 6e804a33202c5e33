"""Wrong arguments of parts 3 to 9: the class of each error, its field, and which argument is told [3], [12] to [22]."""

import copy
import itertools
import unittest

from tests import helpers
from tests.helpers import FULL, GREAT, NARROW, NO_NUMBERS, WIDE, Odd, raised
from twocombs.alike import alike_state, are_alike, parting_moves, plain_device
from twocombs.best import best_height, best_heights, best_moves, fewest_moves
from twocombs.errors import (CombError, Impossible, InvalidDevice, InvalidHeight, InvalidLooks, InvalidMoves,
                             InvalidNumber, InvalidState)
from twocombs.joining import joining_count, joining_moves, joining_round, parted_by
from twocombs.means import held_heights, lasting_heights, mean_rise, settling_rounds, stuck_heights
from twocombs.rounds import far_state, first_time, round_cycle
from twocombs.spans import climbing_span, span_for, span_rise, span_rows
from twocombs.told import clash_index, fitting_starts, range_of_rises, sure_rise, telling_move

FUNCTIONS = {
    far_state: ["device", "state", "moves", "times"],
    first_time: ["device", "state", "moves", "height"],
    round_cycle: ["device", "state", "moves"],
    mean_rise: ["device", "hand", "round"],
    held_heights: ["device", "hand"],
    stuck_heights: ["device", "hand", "round"],
    lasting_heights: ["device", "hand", "round"],
    settling_rounds: ["device", "hand", "round"],
    span_rise: ["device", "hand", "span"],
    climbing_span: ["device", "hand"],
    span_rows: ["device", "hand"],
    span_for: ["device", "hand", "top", "bottom"],
    best_heights: ["device", "state", "reach", "count"],
    best_height: ["device", "state", "reach", "count"],
    fewest_moves: ["device", "state", "reach", "height"],
    best_moves: ["device", "state", "reach", "height"],
    joining_round: ["small", "hand", "one", "one", "round"],
    joining_count: ["small", "hand", "one", "one"],
    joining_moves: ["small", "hand", "one", "one"],
    parted_by: ["small", "hand", "one", "one", "moves"],
    are_alike: ["device", "state", "second", "start"],
    plain_device: ["device", "state"],
    alike_state: ["device", "state"],
    parting_moves: ["device", "state", "second", "start"],
    fitting_starts: ["device", "looks"],
    clash_index: ["device", "looks"],
    sure_rise: ["device", "looks", "move"],
    range_of_rises: ["device", "looks", "move"],
    telling_move: ["device", "looks"],
}
RIGHT = {"device": WIDE, "state": (3, 0), "moves": [2, -3], "round": [7, -7], "hand": -4, "times": 3, "height": 9,
         "span": 7, "top": 3, "bottom": 2, "reach": 5, "count": 4, "small": NARROW, "one": 6,
         "second": ((4, [1]), (6, [0, 2])), "start": (1, 0),
         "looks": [(2, 1), (-3, -1)], "move": -4}

NUMBERS = [(value, InvalidNumber, {}) for value in NO_NUMBERS]
BELOW_ONE = [(value, InvalidNumber, {}) for value in (0, -1, -2, -GREAT)]
MOVES = [(value, InvalidMoves, {"index": index}) for value, index in helpers.NO_MOVES]
NO_ROUNDS = [[], [1], [-1], [7, -6], [7, -8], [GREAT], [GREAT, -GREAT, 1], [1] * 40, [1, -1] * 19 + [1]]

# For each argument its wrong values, each with the error that it raises and the fields of this error.
WRONG = {
    "device": [(value, InvalidDevice, {"index": index}) for value, index in helpers.NO_DEVICES]
    + [((value, FULL), InvalidDevice, {"index": 0}) for value, _ in helpers.NO_COMBS]
    + [((FULL, value), InvalidDevice, {"index": 1}) for value, _ in helpers.NO_COMBS]
    + [((value, value), InvalidDevice, {"index": 0}) for value, _ in helpers.NO_COMBS],
    "state": [(value, InvalidState, {}) for value in helpers.NO_WHOLE_PAIRS]
    + [(value, InvalidState, {}) for value in ((1, 0), (2, 0), (14, 1), (-1, 0), (0, 0.0), (GREAT - 1, 0), [3, 0])],
    "moves": MOVES,
    "round": MOVES + [(value, Impossible, {}) for value in NO_ROUNDS],
    "hand": NUMBERS,
    "times": NUMBERS + BELOW_ONE[1:],
    "height": NUMBERS,
    "span": NUMBERS + BELOW_ONE,
    "top": NUMBERS,
    "bottom": NUMBERS + BELOW_ONE,
    "reach": NUMBERS + BELOW_ONE + [(value, InvalidNumber, {}) for value in (25, 26, 200, GREAT)],
    "count": NUMBERS + BELOW_ONE[1:] + [(value, InvalidNumber, {}) for value in (201, 202, GREAT)],
    "one": [(value, InvalidHeight, {}) for value in NO_NUMBERS + [(6, 0), 4, 7, -1, 8, 6.0, GREAT - 4]],
    "start": [(value, InvalidState, {}) for value in helpers.NO_WHOLE_PAIRS]
    + [(value, InvalidState, {}) for value in ((3, 0), (0, 1), (2, 1), (-1, 0), (1.0, 0), [1, 0], (GREAT, 0))],
    "looks": [(value, InvalidLooks, {"index": index}) for value, index in helpers.NO_LOOKS],
    "move": NUMBERS + BELOW_ONE[:1],
}
WRONG["second"] = WRONG["device"]
WRONG["small"] = WRONG["device"] + [
    (((9, [0]), (5, [0])), InvalidDevice, {"index": 0}), (((3, [0]), (9, [0])), InvalidDevice, {"index": 1}),
    (((24, [0]), (24, [0])), InvalidDevice, {"index": 0}), (((8, [0]), FULL), InvalidDevice, {"index": 1}),
    (((9, [0]), (25, [0])), InvalidDevice, {"index": 1}), (((9, [0]), None), InvalidDevice, {"index": 1}),
    (((24, [0]), (5, (0,))), InvalidDevice, {"index": 1}), ((None, (9, [0])), InvalidDevice, {"index": 0}),
    (((3, [0]), (10, [0, 3])), InvalidDevice, {"index": 1}), (((9, [0]),), InvalidDevice, {"index": None}),
]
# A few of them for each argument, of all errors that it can raise, to be put one behind the other.
FEW = {
    "device": [(None, InvalidDevice, {"index": None}), ((FULL, (25, [0])), InvalidDevice, {"index": 1}),
               ([FULL, FULL], InvalidDevice, {"index": None}), ((None, None), InvalidDevice, {"index": 0})],
    "state": [(None, InvalidState, {}), ((5, 0), InvalidState, {})],
    "moves": [(None, InvalidMoves, {"index": None}), ([3, -3, 0], InvalidMoves, {"index": 2})],
    "round": [((7, -7), InvalidMoves, {"index": None}), ([7, -6, 0], InvalidMoves, {"index": 2}),
              ([1] * 41, InvalidMoves, {"index": None}), ([], Impossible, {}), ([7, -6], Impossible, {})],
    "hand": [(None, InvalidNumber, {}), (True, InvalidNumber, {})],
    "times": [(None, InvalidNumber, {}), (-1, InvalidNumber, {})],
    "height": [(None, InvalidNumber, {}), (False, InvalidNumber, {})],
    "span": [(None, InvalidNumber, {}), (0, InvalidNumber, {})],
    "top": [(None, InvalidNumber, {}), (1.0, InvalidNumber, {})],
    "bottom": [(None, InvalidNumber, {}), (0, InvalidNumber, {})],
    "reach": [(None, InvalidNumber, {}), (0, InvalidNumber, {}), (25, InvalidNumber, {})],
    "count": [(None, InvalidNumber, {}), (-1, InvalidNumber, {}), (201, InvalidNumber, {})],
    "one": [(None, InvalidHeight, {}), (7, InvalidHeight, {}), (True, InvalidHeight, {})],
    "start": [(None, InvalidState, {}), ((3, 0), InvalidState, {})],
    "looks": [(None, InvalidLooks, {"index": None}), ([(2, 1), (0, 1)], InvalidLooks, {"index": 1}),
              ([(2, 9), [2, 1]], InvalidLooks, {"index": 1})],
    "move": [(None, InvalidNumber, {}), (0, InvalidNumber, {}), (True, InvalidNumber, {})],
}
FEW["second"] = FEW["device"]
FEW["small"] = [(None, InvalidDevice, {"index": None}), (((9, [0]), (5, [0])), InvalidDevice, {"index": 0}),
                (((9, [0]), (25, [0])), InvalidDevice, {"index": 1}),
                (((3, [0]), (9, [0])), InvalidDevice, {"index": 1})]


class WrongTest(unittest.TestCase):
    def assert_raised(self, call, given, kind, fields, note):
        error = raised(call, *given)
        self.assertIs(type(error), kind, note)
        self.assertEqual(vars(error), fields, note)
        self.assertEqual(kind.__bases__, (CombError,))

    def test_each_wrong_argument(self):
        for call, arguments in FUNCTIONS.items():
            right = [RIGHT[name] for name in arguments]
            for at, name in enumerate(arguments):
                for number, (value, kind, fields) in enumerate(WRONG[name]):
                    given = right[:at] + [value] + right[at + 1:]
                    self.assert_raised(call, given, kind, fields, (call.__name__, name, number))

    def test_each_wrong_argument_by_name(self):
        for call, arguments in FUNCTIONS.items():
            told = call.__code__.co_varnames[:call.__code__.co_argcount]
            for at, name in enumerate(arguments):
                for value, kind, fields in FEW[name]:
                    given = {told[place]: RIGHT[other] for place, other in enumerate(arguments)}
                    given[told[at]] = value
                    error = raised(call, **given)
                    self.assertEqual((type(error), vars(error)), (kind, fields), (call.__name__, name))

    def test_the_first_wrong_argument_is_told(self):
        for call, arguments in FUNCTIONS.items():
            choices = [[(RIGHT[name], None, None)] + FEW[name] for name in arguments]
            for rows in itertools.product(*choices):
                wrong = [(kind, fields) for _, kind, fields in rows if kind is not None]
                given = [value for value, _, _ in rows]
                if wrong:
                    self.assert_raised(call, given, *wrong[0], (call.__name__, given))
                else:
                    self.assertIsNone(raised(call, *given), call.__name__)

    def test_the_first_wrong_argument_is_told_ahead_of_any_value(self):
        for call, arguments in FUNCTIONS.items():
            right = [RIGHT[name] for name in arguments]
            for at, name in enumerate(arguments):
                for value, kind, fields in FEW[name]:
                    given = right[:at] + [value] + [Odd() for _ in arguments[at + 1:]]
                    self.assert_raised(call, given, kind, fields, (call.__name__, name))

    def test_what_is_no_round_may_be_done_several_times(self):
        for moves in NO_ROUNDS:
            for call, others in ((far_state, [5]), (first_time, [5]), (round_cycle, [])):
                self.assertIsNone(raised(call, WIDE, (3, 0), moves, *others))

    def test_no_round_is_told_behind_all_others(self):
        for call in (mean_rise, stuck_heights, lasting_heights, settling_rounds):
            self.assertIs(type(raised(call, NARROW, 0, [7, -6])), Impossible)
            self.assertIs(type(raised(call, NARROW, 0, [])), Impossible)
            self.assertIs(type(raised(call, NARROW, None, [])), InvalidNumber)
            self.assertIs(type(raised(call, (NARROW[0], None), 0, [])), InvalidDevice)
            self.assertIs(type(raised(call, NARROW, 0, ())), InvalidMoves)
            self.assertIs(type(raised(call, NARROW, 0, (7, -7))), InvalidMoves)
            self.assertEqual(raised(call, NARROW, 0, [7, -6, True]).index, 2)
            self.assertIsNone(raised(call, NARROW, 0, [1, -1] * 20))

    def test_a_hand_beyond_the_reach_is_told_behind_all_others(self):
        for call, last in ((best_heights, 4), (best_height, 0), (fewest_moves, 9), (best_moves, GREAT)):
            for hand, reach in ((-1, 5), (6, 5), (2, 1), (25, 24), (-GREAT, 24), (GREAT, 24), (-4, 24)):
                error = raised(call, WIDE, (3, hand), reach, last)
                self.assertEqual((type(error), vars(error)), (InvalidState, {}), (call.__name__, hand))
                self.assertIs(type(raised(call, WIDE, (3, hand), reach, None)), InvalidNumber)
                self.assertIs(type(raised(call, WIDE, (3, hand), 25, last)), InvalidNumber)
                self.assertIs(type(raised(call, WIDE, (3, hand), 0, None)), InvalidNumber)
                self.assertIs(type(raised(call, None, (3, hand), reach, last)), InvalidDevice)
                self.assertIs(type(raised(call, WIDE, (5, hand * 10), reach, None)), InvalidState)
            self.assertIs(type(raised(call, WIDE, (3, -1), 5, True)), InvalidNumber)
        for call in (best_heights, best_height):
            self.assertIs(type(raised(call, WIDE, (3, -1), 5, 201)), InvalidNumber)
            self.assertIs(type(raised(call, WIDE, (3, -1), 5, -1)), InvalidNumber)
            self.assertIs(type(raised(call, WIDE, (3, -1), 5, 200)), InvalidState)

    def test_heights_are_judged_at_their_hand(self):
        for call, others in ((joining_count, []), (joining_moves, []), (joining_round, [[7, -7]]), (parted_by, [[7]])):
            self.assertIs(type(raised(call, NARROW, 0, 6, 5, *others)), type(None))
            self.assertIs(type(raised(call, NARROW, 1, 6, 5, *others)), InvalidHeight)
            self.assertIs(type(raised(call, NARROW, 1, 5, 6, *others)), InvalidHeight)
            self.assertIs(type(raised(call, NARROW, 1, 6, 1, *others)), type(None))
            self.assertIs(type(raised(call, NARROW, GREAT, 6, GREAT - 5, *others)), type(None))
            self.assertIs(type(raised(call, NARROW, None, None, None, *others)), InvalidNumber)
            self.assertIs(type(raised(call, NARROW, 0, 6, True, *others)), InvalidHeight)

    def test_rounds_and_heights_one_behind_the_other(self):
        self.assertIs(type(raised(joining_round, NARROW, 0, 6, 7, [7, -6])), InvalidHeight)
        self.assertIs(type(raised(joining_round, NARROW, 0, 6, 5, [7, -6])), Impossible)
        self.assertIs(type(raised(joining_round, NARROW, 0, 6, 6, [7, -6])), Impossible)
        self.assertIs(type(raised(joining_round, NARROW, 0, 6, 6, [])), Impossible)
        self.assertEqual(raised(joining_round, NARROW, 0, 6, 5, [7, -6, 0]).index, 2)
        for moves in NO_ROUNDS:
            self.assertIsNone(raised(parted_by, NARROW, 0, 6, 5, moves))

    def test_a_great_pitch_is_told_behind_what_is_no_device(self):
        self.assertEqual(raised(joining_count, ((9, [0]), None), None, None, None).index, 1)
        self.assertEqual(raised(joining_count, ((9, [0]), (9, [0])), None, None, None).index, 0)
        self.assertEqual(raised(joining_count, ((8, [0]), (9, [0])), None, None, None).index, 1)
        self.assertIsNone(raised(joining_count, ((8, [0]), (8, [0])), 0, 0, 8))

    def test_a_state_of_the_first_device_that_is_none_of_the_second_one(self):
        for call in (are_alike, parting_moves):
            self.assertIs(type(raised(call, WIDE, (3, 0), NARROW, (13, 0))), InvalidState)
            self.assertIs(type(raised(call, NARROW, (5, 0), WIDE, (5, 0))), InvalidState)
            self.assertIs(type(raised(call, NARROW, (13, 0), WIDE, (13, 0))), InvalidState)
            self.assertIsNone(raised(call, NARROW, (5, 0), WIDE, (13, 0)))
            self.assertEqual(raised(call, WIDE, (3, 0), (WIDE[0], None), (4, 0)).index, 1)
            self.assertIs(type(raised(call, WIDE, (4, 0), (WIDE[0], None), (4, 0))), InvalidState)

    def test_looks_that_no_start_fits_are_told_behind_all_others(self):
        looks = [(4, 5)]
        for call, others in ((sure_rise, [1]), (range_of_rises, [1]), (telling_move, [])):
            self.assertIs(type(raised(call, NARROW, looks, *others)), Impossible)
            self.assertIs(type(raised(call, NARROW, [(4, 1), (-4, -2)], *others)), Impossible)
            self.assertIs(type(raised(call, NARROW, [(1, 0)] * 11 + [(GREAT, 0)], *others)), Impossible)
            self.assertEqual(raised(call, NARROW, looks + [(1, True)], *others).index, 1)
            self.assertEqual(raised(call, NARROW, looks * 13, *others).index, None)
            self.assertEqual(raised(call, (NARROW[0], None), looks, *others).index, 1)
        for call in (sure_rise, range_of_rises):
            for move in NO_NUMBERS + [0]:
                self.assertIs(type(raised(call, NARROW, looks, move)), InvalidNumber)
        for call in (fitting_starts, clash_index):
            self.assertIsNone(raised(call, NARROW, looks))

    def test_arguments_are_as_they_were_behind_errors(self):
        device, moves = ((10, [0, 3]), (10, [0])), [7, -6]
        for call in (mean_rise, stuck_heights, lasting_heights, settling_rounds):
            before = copy.deepcopy((device, moves))
            self.assertIs(type(raised(call, device, 0, moves)), Impossible)
            self.assertEqual((device, moves), before)
        self.assertIs(type(raised(far_state, device, (3, 0), moves, -1)), InvalidNumber)
        self.assertIs(type(raised(first_time, device, (3, 0), moves, None)), InvalidNumber)
        self.assertEqual((device, moves), (((10, [0, 3]), (10, [0])), [7, -6]))

    def test_errors_change_no_later_answer(self):
        for _ in range(3):
            self.assertEqual(mean_rise(NARROW, 0, [10, -10]), (15, 2))
            self.assertIs(type(raised(mean_rise, NARROW, 0, [10, -9])), Impossible)
            self.assertEqual(span_rows(WIDE, 0), [(10, 10, 1), (20, 20, 1)])
            self.assertIs(type(raised(span_rows, WIDE, None)), InvalidNumber)

    def test_what_is_just_right(self):
        self.assertIsNone(raised(far_state, WIDE, (3, 0), [1] * 40, 0))
        self.assertIsNone(raised(span_rise, WIDE, 0, 1))
        self.assertIsNone(raised(span_for, WIDE, 0, -GREAT, 1))
        self.assertIsNone(raised(held_heights, (FULL, (1, [0])), -GREAT))
        for count in (0, 200):
            self.assertIsNone(raised(best_heights, (FULL, FULL), (0, 0), 24, count))
            self.assertIsNone(raised(best_height, (FULL, FULL), (0, 1), 1, count))
        self.assertIsNone(raised(fewest_moves, WIDE, (3, 24), 24, -GREAT))
        self.assertIsNone(raised(best_moves, WIDE, (3, 0), 1, -GREAT))


if __name__ == "__main__":
    unittest.main()
