"""Part 10: a live bar, its calls, what it tells, its forks [23] to [25]."""

import copy
import random
import unittest

from tests import helpers
from tests.helpers import (FULL, FULL_23, GREAT, NARROW, NO_COMBS, NO_DEVICES, NO_NUMBERS, NO_WHOLE_PAIRS, WIDE, Odd,
                           all_combs, catches_at, held_at, leaped, power_rise, raised, repeated, sample_devices,
                           start_of, start_table)
from twocombs.errors import Impossible, InvalidComb, InvalidDevice, InvalidNumber, InvalidState, NothingToUndo
from twocombs.live import LiveBar

ONE = (1, [0])
DEVICES = [NARROW, WIDE, (ONE, ONE), ((4, [0, 1]), (6, [2, 5])), ((5, [1, 4]), ONE), (ONE, (5, [2])), (FULL, (7, [3])),
           ((24, [0]), (23, [0])), ((23, [4, 21]), (24, [5, 6, 17, 18]))]
GRIPS = [comb for pitch in (1, 2, 3) for comb in all_combs(pitch)] + [(5, [0]), (10, [0, 3]), (24, [7]), FULL, FULL_23]


def begun(device, hand=0, more=0):
    """Return a state with this hand."""
    return held_at(device, hand)[more % len(held_at(device, hand))], hand


def told(bar):
    """Return all that a live bar tells."""
    return [bar.height, bar.hand, bar.device, bar.rises, bar.log, len(bar)]


def pumped(device, state, span, times):
    """Return the state behind pumping, as single rounds or tables of starts show it."""
    if times <= 60:
        return repeated(device, state, [span, -span], times)[-1]
    table = start_table(device, [span, -span])
    return state[0] + power_rise(table, start_of(device, state), times), state[1]


def after_call(device, state, call):
    """Return the device and the state behind a call, as a log has it."""
    if call[0] == "move":
        return device, leaped(device, state, call[1])
    if call[0] == "pump":
        return device, pumped(device, state, call[1], call[2])
    return (device[0], call[1]), state


def replayed(device, state, calls):
    """Return what a bar tells behind these calls, all of them done from the beginning on."""
    rises = []
    for call in calls:
        before = state
        device, state = after_call(device, state, call)
        rises.append(state[0] - before[0])
    return [state[0], state[1], device, rises, calls, len(calls)]


def do(bar, call):
    """Tell a bar a call, as a log has it."""
    if call[0] == "move":
        return bar.move(call[1])
    if call[0] == "pump":
        return bar.pump(call[1], call[2])
    return bar.set_grip(call[1])


def drawn_call(draw, device, state):
    """Return a call that can be done now."""
    kind = draw.choice(["move", "move", "pump", "grip"])
    if kind == "move":
        return "move", draw.choice([-1, 1]) * draw.choice([1, 2, 3, 7, 24, 10 ** 39 + 1])
    if kind == "pump":
        return "pump", draw.choice([1, 2, 5, 9, 30, 10 ** 39]), draw.choice([1, 2, 3, 10])
    grips = [grip for grip in GRIPS if catches_at(device[0], state[0]) or catches_at(grip, state[0] - state[1])]
    return "grip", copy.deepcopy(draw.choice(grips))


def lists_within(value):
    """Return all lists within a value, and the value itself if it is one."""
    if not isinstance(value, (list, tuple)):
        return []
    return [value] * isinstance(value, list) + [inner for item in value for inner in lists_within(item)]


class ExamplesTest(unittest.TestCase):
    def test_the_example(self):
        bar = LiveBar(NARROW, (0, 0))
        self.assertEqual(told(bar), [0, 0, ((3, [0]), (5, [0])), [], [], 0])
        self.assertEqual([bar.move(7), bar.height, bar.move(-7), bar.height, bar.hand, bar.rises],
                         [None, 7, None, 6, 0, [7, -1]])
        self.assertEqual([bar.pump(10, 2), bar.height, bar.rises, bar.undo(), bar.height],
                         [None, 24, [7, -1, 18], None, 6])
        self.assertEqual([bar.set_grip((4, [1])), bar.device, bar.move(3), bar.height, bar.rises, len(bar)],
                         [None, ((3, [0]), (4, [1])), None, 8, [7, -1, 0, 2], 4])
        other = bar.fork()
        self.assertEqual([other == bar, other.move(-3), other.height, bar.height, other == bar],
                         [True, None, 6, 8, False])
        self.assertEqual(bar.log, [("move", 7), ("move", -7), ("grip", (4, [1])), ("move", 3)])
        self.assertEqual([other.undo(), other.undo(), other.undo(), other.device, other.height, other.rises],
                         [None, None, None, ((3, [0]), (5, [0])), 6, [7, -1]])
        self.assertIs(type(raised(bar.set_grip, (5, [1]))), Impossible)
        self.assertIs(type(raised(LiveBar, NARROW, (1, 0))), InvalidState)


class CallsTest(unittest.TestCase):
    def test_each_move_alone(self):
        for device in DEVICES + sample_devices():
            for state in (begun(device), begun(device, -5, 3), begun(device, GREAT, 2)):
                for by in (1, -1, 2, -3, 9, -24, 30, GREAT, -GREAT):
                    bar = LiveBar(device, state)
                    self.assertIsNone(bar.move(by))
                    self.assertEqual(told(bar), replayed(device, state, [("move", by)]))

    def test_each_pump_alone(self):
        for device in DEVICES:
            for state in (begun(device), begun(device, -5, 3), begun(device, -GREAT, 2)):
                for span in (1, 3, 8, 25, GREAT):
                    for times in (1, 2, 3, 17):
                        bar = LiveBar(device, state)
                        self.assertIsNone(bar.pump(span, times))
                        self.assertEqual(told(bar), replayed(device, state, [("pump", span, times)]))

    def test_pumping_of_forty_digits(self):
        for device in DEVICES[:6]:
            for span in (4, 7, 10, GREAT):
                for times in (100, 10 ** 30 + 7, GREAT):
                    state = begun(device, 3)
                    bar = LiveBar(device, state)
                    bar.pump(span, times)
                    bar.move(-2)
                    self.assertEqual(told(bar), replayed(device, state, [("pump", span, times), ("move", -2)]))

    def test_each_grip_alone(self):
        for device in DEVICES:
            for state in (begun(device), begun(device, 2, 1), begun(device, -7, 5)):
                for grip in GRIPS:
                    bar = LiveBar(device, state)
                    if catches_at(device[0], state[0]) or catches_at(grip, state[0] - state[1]):
                        self.assertIsNone(bar.set_grip(grip))
                        self.assertEqual(told(bar), replayed(device, state, [("grip", grip)]))
                    else:
                        self.assertIs(type(raised(bar.set_grip, grip)), Impossible)
                        self.assertEqual(told(bar), replayed(device, state, []))

    def test_up_to_two_hundred_calls(self):
        for number, device in enumerate(DEVICES):
            draw = random.Random(number)
            first = begun(device, 2, number)
            bar, ways = LiveBar(device, first), [(device, first)]
            calls = []
            for _ in range(200):
                if calls and draw.random() < 0.3:
                    self.assertIsNone(bar.undo())
                    calls.pop()
                    ways.pop()
                else:
                    calls.append(drawn_call(draw, *ways[-1]))
                    ways.append(after_call(*ways[-1], calls[-1]))
                    self.assertIsNone(do(bar, calls[-1]))
                self.assertEqual([bar.device, (bar.height, bar.hand)], list(ways[-1]))
                self.assertEqual((bar.log, len(bar), len(bar.rises)), (calls, len(calls), len(calls)))
            self.assertEqual(told(bar), replayed(device, first, calls))

    def test_two_hundred_calls_taken_back(self):
        bar = LiveBar(WIDE, (3, 0))
        for at in range(100):
            bar.move(7 + at)
            bar.move(-at - 1)
        again = LiveBar(WIDE, (3, 0))
        for at in range(100):
            again.move(7 + at)
            again.move(-at - 1)
        self.assertEqual(len(bar), 200)
        self.assertTrue(bar == again)
        self.assertEqual(told(bar), told(again))
        for many in range(199, -1, -1):
            bar.undo()
            self.assertEqual(told(bar), replayed(WIDE, (3, 0), bar.log))
            self.assertEqual(len(bar), many)
        self.assertEqual(told(bar), told(LiveBar(WIDE, (3, 0))))
        self.assertIs(type(raised(bar.undo)), NothingToUndo)
        self.assertEqual(told(bar), told(LiveBar(WIDE, (3, 0))))

    def test_undo_brings_back_the_grip(self):
        bar = LiveBar(NARROW, (0, 0))
        bar.set_grip((4, [1]))
        bar.set_grip((2, [1]))
        bar.move(5)
        bar.undo()
        self.assertEqual(bar.device, ((3, [0]), (2, [1])))
        bar.undo()
        self.assertEqual(bar.device, ((3, [0]), (4, [1])))
        bar.undo()
        self.assertEqual(bar.device, NARROW)
        bar.move(5)
        self.assertEqual((bar.height, bar.rises, bar.log), (5, [5], [("move", 5)]))

    def test_the_same_grip_is_a_call(self):
        bar = LiveBar(NARROW, (0, 0))
        bar.set_grip((5, [0]))
        self.assertEqual(told(bar), [0, 0, NARROW, [0], [("grip", (5, [0]))], 1])
        bar.undo()
        self.assertEqual(told(bar), [0, 0, NARROW, [], [], 0])

    def test_by_name(self):
        bar = LiveBar(state=(0, 0), device=NARROW)
        bar.move(by=7)
        bar.pump(times=2, span=10)
        bar.set_grip(comb=ONE)
        self.assertEqual(bar.log, [("move", 7), ("pump", 10, 2), ("grip", ONE)])


class NewObjectsTest(unittest.TestCase):
    def bar(self):
        bar = LiveBar(WIDE, (0, 0))
        bar.set_grip((5, [0, 2]))
        bar.move(7)
        bar.set_grip((1, [0]))
        return bar

    def test_all_lists_are_new_each_time(self):
        bar = self.bar()
        for tell in (lambda: bar.device, lambda: bar.rises, lambda: bar.log, lambda: bar.fork().device,
                     lambda: bar.fork().log):
            lists = lists_within(tell()) + lists_within(tell()) + lists_within(bar.device) + lists_within(bar.log)
            for at, one in enumerate(lists):
                self.assertFalse([other for other in lists[at + 1:] if other is one])

    def test_changing_what_was_told_changes_nothing(self):
        bar = self.bar()
        expected = copy.deepcopy(told(bar))
        for _ in range(2):
            for one in lists_within(bar.device) + lists_within(bar.rises) + lists_within(bar.log):
                one.append(7)
                one[0] = None
            self.assertEqual(told(bar), expected)
            self.assertTrue(bar == self.bar())
        bar.undo()
        bar.undo()
        self.assertEqual(bar.device, ((10, [0, 3]), (5, [0, 2])))

    def test_what_the_caller_changes_later_changes_nothing(self):
        ground, grip, other = [0, 3], [0], [1]
        device, comb = ((10, ground), (10, grip)), (4, other)
        bar = LiveBar(device, (0, 0))
        bar.set_grip(comb)
        fork = bar.fork()
        for teeth in (ground, grip, other):
            teeth.clear()
        for one in (bar, fork):
            self.assertEqual(told(one), [0, 0, ((10, [0, 3]), (4, [1])), [0], [("grip", (4, [1]))], 1])
            one.undo()
            self.assertEqual(told(one), [0, 0, WIDE, [], [], 0])

    def test_arguments_are_as_they_were(self):
        device, comb = copy.deepcopy(WIDE), (4, [1])
        bar = LiveBar(device, (0, 0))
        bar.set_grip(comb)
        bar.move(9)
        bar.pump(12, 3)
        self.assertEqual((device, comb), (WIDE, (4, [1])))

    def test_one_comb_for_both(self):
        comb = (4, [0, 1])
        bar = LiveBar((comb, comb), (0, 0))
        ground, grip = bar.device
        self.assertIsNot(ground[1], grip[1])
        ground[1].append(2)
        self.assertEqual(grip, (4, [0, 1]))


class ForkTest(unittest.TestCase):
    def test_forks_go_ways_of_their_own(self):
        for number, device in enumerate(DEVICES):
            draw = random.Random(number)
            first = begun(device, 1, number)
            bars, logs = [LiveBar(device, first)], [[]]
            for _ in range(120):
                at = draw.randrange(len(bars))
                bar, calls = bars[at], logs[at]
                chance = draw.random()
                if chance < 0.1 and len(bars) < 6:
                    bars.append(bar.fork())
                    logs.append(list(calls))
                    self.assertIs(type(bars[-1]), LiveBar)
                    self.assertTrue(bars[-1] == bar and bar == bars[-1])
                elif chance < 0.35 and calls:
                    bar.undo()
                    calls.pop()
                elif chance >= 0.35:
                    calls.append(drawn_call(draw, bar.device, (bar.height, bar.hand)))
                    do(bar, calls[-1])
                self.assertEqual([one.log for one in bars], logs)
            for bar, calls in zip(bars, logs):
                self.assertEqual(told(bar), replayed(device, first, calls))

    def test_a_fork_takes_back_the_same_calls(self):
        bar = LiveBar(NARROW, (0, 0))
        bar.move(7)
        bar.set_grip((4, [0, 3]))
        bar.pump(9, GREAT)
        expected = copy.deepcopy(told(bar))
        fork = bar.fork()
        self.assertEqual(told(fork), expected)
        fork.undo()
        fork.undo()
        self.assertEqual(told(fork), replayed(NARROW, (0, 0), [("move", 7)]))
        self.assertEqual(told(bar), expected)
        bar.undo()
        bar.undo()
        bar.undo()
        fork.undo()
        self.assertTrue(bar == fork)
        for one in (bar, fork):
            self.assertIs(type(raised(one.undo)), NothingToUndo)

    def test_a_fork_of_a_fork(self):
        bar = LiveBar(NARROW, (0, 0))
        bars = [bar, bar.fork(), bar.fork().fork()]
        for at, one in enumerate(bars):
            one.move(at + 1)
        self.assertEqual([one.log for one in bars], [[("move", 1)], [("move", 2)], [("move", 3)]])


class EqualTest(unittest.TestCase):
    def test_by_device_state_and_log(self):
        self.assertTrue(LiveBar(NARROW, (0, 0)) == LiveBar(((3, [0]), (5, [0])), (0, 0)))
        for device, state in ((WIDE, (0, 0)), (NARROW, (3, 0)), (NARROW, (0, 5)), (((3, [0]), ONE), (0, 0)),
                              (((6, [0, 3]), (5, [0])), (0, 0))):
            self.assertFalse(LiveBar(NARROW, (0, 0)) == LiveBar(device, state))
            self.assertTrue(LiveBar(NARROW, (0, 0)) != LiveBar(device, state))

    def test_the_log_counts_and_not_the_way(self):
        one, other = LiveBar(NARROW, (0, 0)), LiveBar(NARROW, (0, 0))
        one.move(7)
        self.assertFalse(one == other)
        other.move(3)
        other.undo()
        other.move(7)
        self.assertTrue(one == other)
        other.set_grip((5, [0]))
        self.assertFalse(one == other)
        one.set_grip((5, [0]))
        self.assertTrue(one == other)
        one.move(2)
        other.pump(2, 1)
        self.assertFalse(one == other)

    def test_the_place_alone_is_not_enough(self):
        one, other = LiveBar(NARROW, (0, 0)), LiveBar(NARROW, (0, 0))
        one.move(3)
        one.move(4)
        other.move(7)
        self.assertEqual((one.height, one.hand), (other.height, other.hand))
        self.assertFalse(one == other)
        first = LiveBar(NARROW, (7, 7))
        other.undo()
        self.assertFalse(first == other)

    def test_the_grip_of_the_beginning_counts(self):
        one, other = LiveBar(NARROW, (0, 0)), LiveBar(((3, [0]), (5, [0, 1])), (0, 0))
        for bar in (one, other):
            bar.set_grip((4, [0]))
        self.assertEqual(one.device, other.device)
        self.assertFalse(one == other)

    def test_other_values(self):
        bar = LiveBar(NARROW, (0, 0))
        for value in helpers.ODD_VALUES + [(0, 0), [], bar.log, NARROW, "LiveBar"]:
            if not isinstance(value, Odd):
                self.assertIs(bar == value, False)
                self.assertIs(bar != value, True)
        self.assertIs(LiveBar.__eq__(bar, Odd()), False)
        self.assertIs(bar == bar, True)
        self.assertIs(bar == bar.fork(), True)


class WrongTest(unittest.TestCase):
    def assert_refused(self, call, given, kind, fields=None):
        error = raised(call, *given)
        self.assertEqual((type(error), vars(error)), (kind, fields or {}), given if len(given) < 2 else None)

    def test_wrong_devices_and_states(self):
        for value, index in NO_DEVICES:
            self.assert_refused(LiveBar, (value, (0, 0)), InvalidDevice, {"index": index})
            self.assert_refused(LiveBar, (value, None), InvalidDevice, {"index": index})
        for value in NO_WHOLE_PAIRS + [(1, 0), (4, 1), (GREAT - 1, 0)]:
            self.assert_refused(LiveBar, (NARROW, value), InvalidState)

    def test_wrong_calls_change_nothing(self):
        bar = LiveBar(NARROW, (0, 0))
        bar.move(7)
        bar.move(-4)
        bar.move(5)
        expected = copy.deepcopy(told(bar))
        self.assertEqual(expected[:2], [8, 8])
        cases = [(bar.move, (value,), InvalidNumber) for value in NO_NUMBERS + [0]]
        for wrong in NO_NUMBERS + [0, -1, -GREAT]:
            cases += [(bar.pump, (wrong, 1), InvalidNumber), (bar.pump, (1, wrong), InvalidNumber)]
        cases += [(bar.set_grip, ((5, [teeth]),), Impossible) for teeth in (1, 2, 3, 4)]
        cases += [(bar.set_grip, ((24, list(range(1, 24))),), Impossible)]
        for call, given, kind in cases:
            self.assert_refused(call, given, kind)
            self.assertEqual(told(bar), expected)
        for value, index in NO_COMBS:
            self.assert_refused(bar.set_grip, (value,), InvalidComb, {"index": index})
            self.assertEqual(told(bar), expected)
        bar.undo()
        self.assertEqual(told(bar), replayed(NARROW, (0, 0), [("move", 7), ("move", -4)]))

    def test_the_span_is_told_ahead_of_the_times(self):
        bar = LiveBar(NARROW, (0, 0))
        self.assertIn("span", str(raised(bar.pump, 0, 0)))
        self.assertIn("times", str(raised(bar.pump, 1, 0)))
        self.assertEqual(len(bar), 0)

    def test_nothing_to_undo(self):
        bar = LiveBar(NARROW, (0, 0))
        for _ in range(3):
            self.assert_refused(bar.undo, (), NothingToUndo)
            self.assert_refused(bar.move, (0,), InvalidNumber)
        self.assertEqual(told(bar), replayed(NARROW, (0, 0), []))

    def test_a_grip_alone_or_the_ground_alone_will_do(self):
        bar = LiveBar(NARROW, (3, 1))
        self.assertIsNone(bar.set_grip((24, [23])))
        bar.move(1)
        bar = LiveBar(NARROW, (5, 0))
        self.assert_refused(bar.set_grip, ((24, [23]),), Impossible)
        self.assertIsNone(bar.set_grip((24, [5])))
        self.assertIsNone(bar.set_grip((7, [5])))


if __name__ == "__main__":
    unittest.main()
