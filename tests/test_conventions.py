"""The conventions [2] and the interface: names of arguments, untouched arguments, new lists, equal answers."""

import copy
import importlib
import inspect
import unittest

from tests.helpers import FULL, NARROW, WIDE
from twocombs.combs import plain_comb
from twocombs.moving import joined_moves, mirror_device, moved_state, state_trail

INTERFACE = {
    "combs": {
        "is_comb": ["value"], "is_device": ["value"], "catch_below": ["comb", "number"],
        "catch_above": ["comb", "number"], "catch_count": ["comb", "least", "greatest"],
        "nth_catch": ["comb", "index"], "plain_comb": ["comb"], "widest_gap": ["comb"],
    },
    "moving": {
        "is_state": ["device", "value"], "moved_state": ["device", "state", "moves"],
        "state_trail": ["device", "state", "moves"], "joined_moves": ["moves"], "mirror_device": ["device"],
        "mirror_state": ["state"],
    },
}

# Arguments for each function, and what it returns.
CALLS = {
    "is_comb": [((10, [0, 3]),), True],
    "is_device": [(((10, [0, 3]), (5, [0])),), True],
    "catch_below": [((10, [0, 3]), -1), -7],
    "catch_above": [((10, [0, 3]), 14), 20],
    "catch_count": [((10, [0, 3]), -7, 13), 5],
    "nth_catch": [((10, [0, 3]), -1), -7],
    "plain_comb": [((20, [0, 3, 10, 13]),), (10, [0, 3])],
    "widest_gap": [((10, [0, 3]),), 7],
    "is_state": [(((10, [0, 3]), (10, [0])), (3, 0)), True],
    "moved_state": [(((10, [0, 3]), (10, [0])), (0, 0), [7, -7]), (3, 0)],
    "state_trail": [(((10, [0, 3]), (10, [0])), (0, 0), [7, -7]), [(7, 7), (3, 0)]],
    "joined_moves": [([3, 4, -2],), [7, -2]],
    "mirror_device": [(((3, [0]), (5, [0, 1])),), ((5, [0, 1]), (3, [0]))],
    "mirror_state": [((9, 2),), (7, -2)],
}


def functions():
    """Return (name, function, its argument names, sample arguments, the answer) for the whole interface."""
    rows = []
    for file, names in INTERFACE.items():
        module = importlib.import_module("twocombs." + file)
        for name, arguments in names.items():
            *sample, answer = CALLS[name]
            given = sample[0] if len(sample) == 1 else tuple(sample)
            rows.append((name, getattr(module, name), arguments, given, answer))
    return rows


class InterfaceTest(unittest.TestCase):
    def test_names_and_arguments(self):
        for file, names in INTERFACE.items():
            module = importlib.import_module("twocombs." + file)
            for name, arguments in names.items():
                with self.subTest(name=name):
                    function = getattr(module, name)
                    self.assertTrue(inspect.isfunction(function))
                    self.assertEqual(function.__module__, "twocombs." + file)
                    self.assertEqual(list(inspect.signature(function).parameters), arguments)

    def test_by_position_and_by_name(self):
        for name, function, arguments, given, answer in functions():
            with self.subTest(name=name):
                self.assertEqual(function(*given), answer)
                self.assertEqual(function(**dict(zip(arguments, given))), answer)
                self.assertEqual(function(given[0], **dict(zip(arguments[1:], given[1:]))), answer)

    def test_kinds_of_answers(self):
        for name, function, _, given, answer in functions():
            with self.subTest(name=name):
                self.assertIs(type(function(*given)), type(answer))


class ConventionsTest(unittest.TestCase):
    def test_arguments_are_as_they_were(self):
        for name, function, _, given, _ in functions():
            with self.subTest(name=name):
                before = copy.deepcopy(given)
                function(*given)
                self.assertEqual(given, before)

    def test_arguments_are_as_they_were_behind_errors(self):
        moves = [5, 0, -3]
        self.assertRaises(ValueError, joined_moves, moves)
        self.assertRaises(ValueError, moved_state, WIDE, (0, 0), moves)
        self.assertEqual(moves, [5, 0, -3])

    def test_equal_calls_have_equal_answers(self):
        for name, function, _, given, answer in functions():
            with self.subTest(name=name):
                for _ in range(3):
                    self.assertEqual(function(*copy.deepcopy(given)), answer)

    def test_plain_combs_have_lists_of_their_own(self):
        for comb in ((10, [0, 3]), (20, [0, 3, 10, 13]), (1, [0]), (24, list(range(24)))):
            before = copy.deepcopy(comb)
            told = plain_comb(comb)
            again = plain_comb(comb)
            expected = copy.deepcopy(told)
            self.assertIsNot(told[1], comb[1])
            self.assertIsNot(told[1], again[1])
            told[1].append(7)
            self.assertEqual((again, plain_comb(comb), comb), (expected, expected, before))

    def test_mirrored_devices_have_lists_of_their_own(self):
        teeth = [0, 2]
        comb = (3, teeth)
        for device in ((comb, comb), ((3, teeth), (5, teeth)), ((3, [0]), (5, [0]))):
            before = copy.deepcopy(device)
            told = mirror_device(device)
            self.assertIsNot(told[0][1], told[1][1])
            for mirrored in told:
                for given in device:
                    self.assertIsNot(mirrored[1], given[1])
            told[0][1].append(99)
            self.assertEqual(told[1], before[0])
            self.assertEqual(mirror_device(device), (before[1], before[0]))
            self.assertEqual(device, before)

    def test_trails_and_joined_moves_are_new_lists(self):
        moves = [7, -7]
        told = joined_moves(moves)
        self.assertIsNot(told, moves)
        told.append(1)
        self.assertEqual((moves, joined_moves(moves)), ([7, -7], [7, -7]))
        self.assertIsNot(joined_moves([]), joined_moves([]))
        trail = state_trail(NARROW, (0, 0), moves)
        trail.clear()
        self.assertEqual(state_trail(NARROW, (0, 0), moves), [(7, 7), (6, 0)])
        self.assertIsNot(state_trail(NARROW, (0, 0), []), state_trail(NARROW, (0, 0), []))

    def test_answers_are_taken_by_other_functions(self):
        device = mirror_device((plain_comb(FULL), plain_comb((24, [3, 15]))))
        self.assertEqual(device, ((12, [3]), (1, [0])))
        state = moved_state(device, (3, 1), joined_moves([4, 5, -2]))
        self.assertEqual(state, moved_state(device, state_trail(device, (3, 1), [9])[-1], [-2]))


if __name__ == "__main__":
    unittest.main()
