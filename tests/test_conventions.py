"""The conventions [2] and the interface: names of arguments, untouched arguments, new lists, equal answers."""

import copy
import importlib
import inspect
import unittest

from tests.helpers import FULL, NARROW, WIDE
from twocombs.alike import alike_state, are_alike, parting_moves, plain_device
from twocombs.best import best_height, best_heights, best_moves, fewest_moves
from twocombs.combs import is_device, plain_comb
from twocombs.joining import joining_count, joining_moves, parted_by
from twocombs.means import held_heights, lasting_heights, mean_rise, stuck_heights
from twocombs.moving import joined_moves, mirror_device, moved_state, state_trail
from twocombs.rounds import far_state, first_time
from twocombs.spans import climbing_span, span_for, span_rise, span_rows
from twocombs.texts import parse_device, parse_moves
from twocombs.told import fitting_starts

INTERFACE = {
    "combs": {
        "is_comb": ["value"], "is_device": ["value"], "catch_below": ["comb", "number"],
        "catch_above": ["comb", "number"], "catch_count": ["comb", "least", "greatest"],
        "nth_catch": ["comb", "index"], "plain_comb": ["comb"], "widest_gap": ["comb"],
    },
    "moving": {
        "is_state": ["device", "value"], "moved_state": ["device", "state", "moves"],
        "state_trail": ["device", "state", "moves"], "joined_moves": ["moves"], "mirror_device": ["device"],
        "mirror_state": ["state"],
    },
    "rounds": {
        "far_state": ["device", "state", "moves", "times"], "first_time": ["device", "state", "moves", "height"],
        "round_cycle": ["device", "state", "moves"],
    },
    "means": {
        "mean_rise": ["device", "hand", "moves"], "held_heights": ["device", "hand"],
        "stuck_heights": ["device", "hand", "moves"], "lasting_heights": ["device", "hand", "moves"],
        "settling_rounds": ["device", "hand", "moves"],
    },
    "spans": {
        "span_rise": ["device", "hand", "span"], "climbing_span": ["device", "hand"], "span_rows": ["device", "hand"],
        "span_for": ["device", "hand", "top", "bottom"],
    },
    "best": {
        "best_heights": ["device", "state", "reach", "count"], "best_height": ["device", "state", "reach", "count"],
        "fewest_moves": ["device", "state", "reach", "height"], "best_moves": ["device", "state", "reach", "height"],
    },
    "joining": {
        "joining_round": ["device", "hand", "one", "other", "moves"],
        "joining_count": ["device", "hand", "one", "other"], "joining_moves": ["device", "hand", "one", "other"],
        "parted_by": ["device", "hand", "one", "other", "moves"],
    },
    "alike": {
        "are_alike": ["device", "state", "second", "start"], "plain_device": ["device", "state"],
        "alike_state": ["device", "state"], "parting_moves": ["device", "state", "second", "start"],
    },
    "told": {
        "fitting_starts": ["device", "looks"], "clash_index": ["device", "looks"],
        "sure_rise": ["device", "looks", "move"], "range_of_rises": ["device", "looks", "move"],
        "telling_move": ["device", "looks"],
    },
    "texts": {
        "format_device": ["device"], "format_moves": ["moves"], "format_state": ["state"], "parse_device": ["text"],
        "parse_moves": ["text"], "parse_state": ["device", "text"],
    },
}
# For each class its file, the arguments that it takes, its properties, and its methods with their arguments.
CLASSES = {
    "LiveBar": ("live", ["device", "state"], ["height", "hand", "device", "rises", "log"],
                {"move": ["by"], "pump": ["span", "times"], "set_grip": ["comb"], "undo": [], "fork": [],
                 "__len__": [], "__eq__": ["other"]}),
    "Console": ("console", [], [], {"execute": ["command"]}),
}

# Arguments for each function, and what it returns.
CALLS = {
    "is_comb": [((10, [0, 3]),), True],
    "is_device": [(((10, [0, 3]), (5, [0])),), True],
    "catch_below": [((10, [0, 3]), -1), -7],
    "catch_above": [((10, [0, 3]), 14), 20],
    "catch_count": [((10, [0, 3]), -7, 13), 5],
    "nth_catch": [((10, [0, 3]), -1), -7],
    "plain_comb": [((20, [0, 3, 10, 13]),), (10, [0, 3])],
    "widest_gap": [((10, [0, 3]),), 7],
    "is_state": [(((10, [0, 3]), (10, [0])), (3, 0)), True],
    "moved_state": [(((10, [0, 3]), (10, [0])), (0, 0), [7, -7]), (3, 0)],
    "state_trail": [(((10, [0, 3]), (10, [0])), (0, 0), [7, -7]), [(7, 7), (3, 0)]],
    "joined_moves": [([3, 4, -2],), [7, -2]],
    "mirror_device": [(((3, [0]), (5, [0, 1])),), ((5, [0, 1]), (3, [0]))],
    "mirror_state": [((9, 2),), (7, -2)],
    "far_state": [(((3, [0]), (5, [0])), (0, 0), [10, -10], 3), (24, 0)],
    "first_time": [(((3, [0]), (5, [0])), (0, 0), [10, -10], 100), 14],
    "round_cycle": [(((3, [0]), (5, [0])), (3, 0), [7, -7]), (1, 3, 15)],
    "mean_rise": [(((3, [0]), (5, [0])), 0, [10, -10]), (15, 2)],
    "held_heights": [(((3, [0]), (5, [0])), 1), [0, 1, 3, 6, 9, 11, 12]],
    "stuck_heights": [(((3, [0]), (5, [0])), 0, [3, -3]), [3, 6, 9, 12]],
    "lasting_heights": [(((3, [0]), (5, [0])), 0, [7, -7]), [0, 6, 12]],
    "settling_rounds": [(((3, [0]), (5, [0])), 0, [6, -6]), 3],
    "span_rise": [(((3, [0]), (5, [0])), 0, 10), (15, 2)],
    "climbing_span": [(((3, [0]), (5, [0])), 0), 7],
    "span_rows": [(((10, [0, 3]), (10, [0])), 0), [(10, 10, 1), (20, 20, 1)]],
    "span_for": [(((3, [0]), (5, [0])), 0, 15, 2), 10],
    "best_heights": [(((3, [0]), (5, [0])), (0, 0), 4, 2), [3, 3, 3, 3, 4]],
    "best_height": [(((3, [0]), (5, [0])), (0, 0), 7, 5), 17],
    "fewest_moves": [(((3, [0]), (5, [0])), (0, 0), 7, 8), 3],
    "best_moves": [(((3, [0]), (5, [0])), (0, 0), 7, 8), [6, -6, 3]],
    "joining_round": [(((3, [0]), (5, [0])), 0, 0, 3, [7, -7]), 1],
    "joining_count": [(((3, [0]), (5, [0])), 0, 0, 5), 2],
    "joining_moves": [(((3, [0]), (5, [0])), 0, 3, 3), []],
    "parted_by": [(((3, [0]), (5, [0])), 0, 5, 0, [7, -7]), -6],
    "are_alike": [(((10, [0, 3]), (10, [0])), (0, 0), ((10, [0, 3]), (10, [4])), (0, -4)), True],
    "plain_device": [(((20, [2, 5, 12, 15]), (5, [0])), (2, 2)), ((10, [0, 3]), (5, [0]))],
    "alike_state": [(((10, [0, 3]), (10, [0])), (13, 10 ** 30)), (3, 0)],
    "parting_moves": [(((10, [0, 3]), (10, [0])), (0, 0), ((10, [0, 3]), (5, [0])), (0, 0)), [-5, 1]],
    "fitting_starts": [(((3, [0]), (5, [0])), [(1, 1), (-1, -1)]), [(0, 0), (1, 0)]],
    "clash_index": [(((3, [0]), (5, [0])), [(4, 1), (-4, -2)]), 1],
    "sure_rise": [(((3, [0]), (5, [0])), [(4, 1)], -3), -1],
    "range_of_rises": [(((3, [0]), (5, [0])), [], 9), (5, 9)],
    "telling_move": [(((3, [0]), (5, [0])), [(1, 1)]), -1],
    "format_device": [(((10, [0, 3]), (5, [0])),), "10: 0 3 / 5: 0"],
    "format_moves": [([7, -7],), "7 -7"],
    "format_state": [((3, -20),), "3 -20"],
    "parse_device": [("10: 0 3 / 5: 0",), ((10, [0, 3]), (5, [0]))],
    "parse_moves": [("7 -7",), [7, -7]],
    "parse_state": [(((10, [0, 3]), (5, [0])), "3 -20"), (3, -20)],
}


def functions():
    """Return (name, function, its argument names, sample arguments, the answer) for the whole interface."""
    rows = []
    for file, names in INTERFACE.items():
        module = importlib.import_module("twocombs." + file)
        for name, arguments in names.items():
            *sample, answer = CALLS[name]
            given = sample[0] if len(sample) == 1 else tuple(sample)
            rows.append((name, getattr(module, name), arguments, given, answer))
    return rows


class InterfaceTest(unittest.TestCase):
    def test_names_and_arguments(self):
        for file, names in INTERFACE.items():
            module = importlib.import_module("twocombs." + file)
            for name, arguments in names.items():
                with self.subTest(name=name):
                    function = getattr(module, name)
                    self.assertTrue(inspect.isfunction(function))
                    self.assertEqual(function.__module__, "twocombs." + file)
                    self.assertEqual(list(inspect.signature(function).parameters), arguments)

    def test_classes(self):
        for name, (file, arguments, properties, methods) in CLASSES.items():
            with self.subTest(name=name):
                made = getattr(importlib.import_module("twocombs." + file), name)
                self.assertTrue(inspect.isclass(made))
                self.assertEqual((made.__module__, made.__bases__), ("twocombs." + file, (object,)))
                self.assertEqual(list(inspect.signature(made).parameters), arguments)
                for method, given in methods.items():
                    self.assertEqual(list(inspect.signature(vars(made)[method]).parameters), ["self"] + given)
                for told in properties:
                    self.assertIs(type(vars(made)[told]), property)
                open_names = [other for other in vars(made) if not other.startswith("_")]
                self.assertEqual(sorted(open_names), sorted([other for other in list(methods) + properties
                                                             if not other.startswith("_")]))

    def test_by_position_and_by_name(self):
        for name, function, arguments, given, answer in functions():
            with self.subTest(name=name):
                self.assertEqual(function(*given), answer)
                self.assertEqual(function(**dict(zip(arguments, given))), answer)
                self.assertEqual(function(given[0], **dict(zip(arguments[1:], given[1:]))), answer)

    def test_kinds_of_answers(self):
        for name, function, _, given, answer in functions():
            with self.subTest(name=name):
                self.assertIs(type(function(*given)), type(answer))


class ConventionsTest(unittest.TestCase):
    def test_arguments_are_as_they_were(self):
        for name, function, _, given, _ in functions():
            with self.subTest(name=name):
                before = copy.deepcopy(given)
                function(*given)
                self.assertEqual(given, before)

    def test_arguments_are_as_they_were_behind_errors(self):
        moves = [5, 0, -3]
        self.assertRaises(ValueError, joined_moves, moves)
        self.assertRaises(ValueError, moved_state, WIDE, (0, 0), moves)
        self.assertEqual(moves, [5, 0, -3])

    def test_equal_calls_have_equal_answers(self):
        for name, function, _, given, answer in functions():
            with self.subTest(name=name):
                for _ in range(3):
                    self.assertEqual(function(*copy.deepcopy(given)), answer)

    def test_plain_combs_have_lists_of_their_own(self):
        for comb in ((10, [0, 3]), (20, [0, 3, 10, 13]), (1, [0]), (24, list(range(24)))):
            before = copy.deepcopy(comb)
            told = plain_comb(comb)
            again = plain_comb(comb)
            expected = copy.deepcopy(told)
            self.assertIsNot(told[1], comb[1])
            self.assertIsNot(told[1], again[1])
            told[1].append(7)
            self.assertEqual((again, plain_comb(comb), comb), (expected, expected, before))

    def test_mirrored_devices_have_lists_of_their_own(self):
        teeth = [0, 2]
        comb = (3, teeth)
        for device in ((comb, comb), ((3, teeth), (5, teeth)), ((3, [0]), (5, [0]))):
            before = copy.deepcopy(device)
            told = mirror_device(device)
            self.assertIsNot(told[0][1], told[1][1])
            for mirrored in told:
                for given in device:
                    self.assertIsNot(mirrored[1], given[1])
            told[0][1].append(99)
            self.assertEqual(told[1], before[0])
            self.assertEqual(mirror_device(device), (before[1], before[0]))
            self.assertEqual(device, before)

    def test_trails_and_joined_moves_are_new_lists(self):
        moves = [7, -7]
        told = joined_moves(moves)
        self.assertIsNot(told, moves)
        told.append(1)
        self.assertEqual((moves, joined_moves(moves)), ([7, -7], [7, -7]))
        self.assertIsNot(joined_moves([]), joined_moves([]))
        trail = state_trail(NARROW, (0, 0), moves)
        trail.clear()
        self.assertEqual(state_trail(NARROW, (0, 0), moves), [(7, 7), (6, 0)])
        self.assertIsNot(state_trail(NARROW, (0, 0), []), state_trail(NARROW, (0, 0), []))

    def test_heights_and_rows_are_new_lists(self):
        for call, given in ((held_heights, (NARROW, 0)), (stuck_heights, (NARROW, 0, [3, -3])),
                            (stuck_heights, (NARROW, 0, [7, -7])), (lasting_heights, (NARROW, 0, [7, -7])),
                            (lasting_heights, (((1, [0]), (1, [0])), 0, [1, -1])), (span_rows, (NARROW, 0))):
            told = call(*given)
            expected = list(told)
            self.assertIsNot(call(*given), told)
            told.append(99)
            told[0] = None
            self.assertEqual(call(*given), expected)

    def test_found_moves_and_best_heights_are_new_lists(self):
        one = (1, [0])
        for call, given in ((best_heights, (NARROW, (0, 0), 4, 0)), (best_heights, (NARROW, (0, 0), 4, 2)),
                            (best_moves, (NARROW, (0, 0), 7, 8)), (best_moves, (NARROW, (0, 0), 7, 0)),
                            (joining_moves, (NARROW, 0, 0, 5)), (joining_moves, (NARROW, 0, 3, 3)),
                            (parting_moves, (WIDE, (3, 0), WIDE, (0, 0))),
                            (parting_moves, (WIDE, (0, 0), (WIDE[0], one), (0, 0)))):
            told = call(*given)
            expected = list(told)
            self.assertIsNot(call(*given), told)
            told.append(99)
            told[0] = None
            self.assertEqual(call(*given), expected)

    def test_plain_devices_have_lists_of_their_own(self):
        teeth = [0, 2]
        comb = (3, teeth)
        for device in ((comb, comb), ((3, teeth), (5, teeth)), ((3, [0]), (5, [0])), ((4, teeth), (4, teeth))):
            before = copy.deepcopy(device)
            told = plain_device(device, (0, 0))
            expected = copy.deepcopy(told)
            again = plain_device(device, (0, 0))
            lists = [part[1] for part in told + again + device]
            for at, mine in enumerate(lists[:4]):
                self.assertFalse([other for other in lists[at + 1:] if other is mine])
            told[0][1].append(99)
            self.assertEqual(told[1], expected[1])
            self.assertEqual((again, plain_device(device, (0, 0)), device), (expected, expected, before))

    def test_starts_and_read_values_are_new_lists(self):
        for call, given in ((fitting_starts, (NARROW, [])), (fitting_starts, (NARROW, [(1, 1)])),
                            (parse_moves, ("7 -7",))):
            told = call(*given)
            expected = list(told)
            self.assertIsNot(call(*given), told)
            told.append(99)
            told[0] = None
            self.assertEqual(call(*given), expected)
        self.assertIsNot(parse_moves(""), parse_moves(""))
        one, other = parse_device("4: 0 / 4: 0"), parse_device("4: 0 / 4: 0")
        lists = [comb[1] for comb in one + other]
        self.assertEqual(len({id(teeth) for teeth in lists}), 4)
        lists[0].append(3)
        self.assertEqual((one[1], other), ((4, [0]), ((4, [0]), (4, [0]))))

    def test_changed_arguments_change_no_earlier_answer(self):
        teeth, moves = [0], [10, -10]
        device = ((3, teeth), (5, [0]))
        told = [held_heights(device, 0), lasting_heights(device, 0, moves), span_rows(device, 0)]
        teeth.append(1)
        moves.append(4)
        self.assertEqual(told, [held_heights(NARROW, 0), lasting_heights(NARROW, 0, [10, -10]), span_rows(NARROW, 0)])

    def test_answers_of_rounds_and_spans_are_taken_by_other_functions(self):
        state = far_state(NARROW, (0, 0), [7, -7, 2], 10 ** 40)
        self.assertEqual(first_time(NARROW, state, [7, -7, 2], state[0]), 0)
        self.assertEqual(moved_state(NARROW, state, [7, -7, 2]), far_state(NARROW, (0, 0), [7, -7, 2], 10 ** 40 + 1))
        self.assertEqual(span_for(NARROW, 0, *span_rise(NARROW, 0, climbing_span(NARROW, 0))), climbing_span(NARROW, 0))
        self.assertEqual(span_for(NARROW, 0, *mean_rise(NARROW, 0, [10, -10])), 10)
        self.assertEqual(held_heights(mirror_device(WIDE), 4), held_heights((WIDE[1], WIDE[0]), 4))

    def test_answers_of_later_parts_are_taken_by_other_functions(self):
        moves = best_moves(NARROW, (0, 0), 7, 17)
        self.assertEqual(moved_state(NARROW, (0, 0), moves)[0], best_height(NARROW, (0, 0), 7, len(moves)))
        self.assertEqual(fewest_moves(NARROW, (0, 0), 7, 17), len(joined_moves(moves)))
        joined = joining_moves(NARROW, 0, 0, 5)
        self.assertEqual(parted_by(NARROW, 0, 0, 5, joined), 0)
        self.assertEqual(joining_count(NARROW, 0, 0, 5), len(joined_moves(joined)))
        plain = plain_device(WIDE, far_state(WIDE, (0, 0), [7, -7, 5], 10 ** 40))
        self.assertTrue(are_alike(plain, alike_state(plain, (0, 0)), plain, (0, 0)))
        self.assertEqual(is_device(plain), True)
        parting = parting_moves(WIDE, (0, 0), NARROW, (0, 0))
        trails = [[height for height, _ in state_trail(device, (0, 0), parting)] for device in (WIDE, NARROW)]
        self.assertEqual(trails[0][:-1], trails[1][:-1])
        self.assertNotEqual(trails[0], trails[1])

    def test_answers_are_taken_by_other_functions(self):
        device = mirror_device((plain_comb(FULL), plain_comb((24, [3, 15]))))
        self.assertEqual(device, ((12, [3]), (1, [0])))
        state = moved_state(device, (3, 1), joined_moves([4, 5, -2]))
        self.assertEqual(state, moved_state(device, state_trail(device, (3, 1), [9])[-1], [-2]))


if __name__ == "__main__":
    unittest.main()
