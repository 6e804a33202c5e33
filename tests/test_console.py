"""Part 12: a console [28], [29]."""

import random
import unittest

from tests.helpers import GREAT, NARROW, NO_NUMBERS, ODD_VALUES, held_at, leaped, once, raised, sample_devices
from twocombs.console import Console
from twocombs.errors import CombError, Impossible, InvalidCommand, InvalidNumber, NothingToUndo
from twocombs.live import LiveBar
from twocombs.means import mean_rise, stuck_heights
from twocombs.rounds import first_time
from twocombs.spans import climbing_span
from twocombs.texts import format_device, format_moves

QUESTIONS = ["state", "start", "rise 1", "rise -1", "rise 7", f"rise {GREAT}", "mean 7 -7", "mean 10 -10", "stuck 3 -3",
             "stuck 7 -7", "span", "time 5 3 -3", "time 100 10 -10", "time 0"]
# Commands that are almost right, whatever the device.
NO_COMMANDS = [
    "", " ", "  ", "ok", "none", "State", "STATE", "states", "stat", "state ", " state", "state 0", "state  ",
    "state\n", "device", "device ", "device  3: 0 / 5: 0", "device 3: 0 / 5: 0 ", " device 3: 0 / 5: 0", "device 3: 0",
    "device 3: 0 /", "device 3: 0 / 5:", "device 3: 0 / 5: 5", "device 3: 3 / 5: 0", "device 25: 0 / 5: 0",
    "device 0: 0 / 5: 0", "device 3: 0 0 / 5: 0", "device 3: / 5: 0", "device 3: 0 / 5: 0 / 5: 0",
    "device 3 : 0 / 5: 0", "device 03: 0 / 5: 0", "device 3: 0 5: 0", "device / 3: 0 / 5: 0", "Device 3: 0 / 5: 0",
    "device 3: -0 / 5: 0", "device 3: 2 1 / 5: 0", "move", "move ", "move  7", "move 7 ", " move 7", "move 7 7",
    "move +7", "move 07", "move -0", "move 7.0", "move x", "move --7", "move -", "move 7-", "Move 7", "move" + "7",
    "move " + "1" * 41, "move -" + "1" * 41, "move 7\n", "move\n7", "move 00", "move ''", "move None", "pump",
    "pump 7", "pump 7 ", "pump  7 1", "pump 7  1", "pump 7 1 ", "pump 7 1 1", "pump -7 1", "pump 7 -1", "pump -0 1",
    "pump 7 -0", "pump 07 1", "pump 7 01", "pump +7 1", "pump x 1", "pump 7 x", "pump " + "1" * 41 + " 1",
    "pump 1 " + "1" * 41, "pump 7,1", "pump [7, -7]", "undo ", " undo", "undo 1", "undo undo", "undo\n", "Undo",
    "start ", "start 0", " start", "rise", "rise ", "rise 7 7", "rise 07", "rise -0", "rise x", "rise " + "1" * 41,
    "rise  7", "mean ", "mean  7 -7", "mean 7 -7 ", "mean 7  -7", "mean 0", "mean 7 0", "mean 7 -7 0", "mean 7 x",
    "mean 07 -7", "mean 7 -07", "mean -0", "mean " + "1 " * 40 + "1", "mean " + "1 -1 " * 20 + "0", "mean 7,-7",
    "mean " + "1" * 41, "stuck ", "stuck  3 -3", "stuck 3 -3 ", "stuck 0", "stuck 3 0", "stuck 3 +3", "stuck x",
    "stuck " + "1 -1 " * 20 + "1", "span ", "span 7", "span 0 ", " span", "spans", "time", "time ", "time x",
    "time 07", "time -0", "time 5 ", "time 5  3", "time 5 0", "time 5 3 0", "time 5 3 -3 ", "time " + "1" * 41,
    "time 5 " + "1 " * 40 + "1", "time 5 3 x", "time  5 3", "time +5 3 -3", "times 5", "fork", "grip 5: 0",
    "set_grip 5: 0", "log", "height", "hand", "rises", "len", "exit", "help", "x" * 10000, " " * 10000,
]


def told(console):
    """Return the answers to all questions."""
    return [console.execute(question) for question in QUESTIONS]


def console_in(device):
    """Return a console in this device."""
    console = Console()
    console.execute("device " + format_device(device))
    return console


def beginning(device):
    """Return the least height from 0 on at which the ground catches."""
    return min(height for height in range(24) if height % device[0][0] in device[0][1])


def fraction_text(top, bottom):
    """Return a mean rise as the console answers it."""
    return f"{top}/{bottom}" if bottom != 1 else f"{top}"


def drawn_moves(draw):
    """Return some drawn moves, half of the time a round."""
    moves = [draw.choice([-1, 1]) * draw.choice([1, 2, 3, 7, 10 ** 39]) for _ in range(draw.randint(0, 5))]
    return moves + [-sum(moves)] if sum(moves) != 0 and draw.random() < 0.5 else moves


def expected_answer(call, *given):
    """Return what a function answers, or the class of its error."""
    error = raised(call, *given)
    return call(*given) if error is None else type(error)


class ConsoleTest(unittest.TestCase):
    def assert_refused(self, console, command, kind):
        error = raised(console.execute, command)
        self.assertEqual((type(error), vars(error)), (kind, {}), str(command)[:90] if isinstance(command, str) else "")
        self.assertEqual(kind.__bases__, (CombError,))

    def answer(self, console, command):
        """Return the answer to a command, or the class of its error, behind which all answers are as they were."""
        before = told(console)
        error = raised(console.execute, command)
        if error is not None:
            self.assertEqual(told(console), before)
            return type(error)
        self.assertEqual(told(console), before)
        return console.execute(command)


class ExamplesTest(ConsoleTest):
    def test_the_example(self):
        console = Console()
        commands = ["state", "device 3: 0 / 5: 0", "move 7", "state", "start", "rise -7", "pump 10 2", "state"]
        self.assertEqual([console.execute(command) for command in commands],
                         ["0 0", "ok", "ok", "7 7", "1 0", "-1", "ok", "21 7"])
        commands = ["undo", "undo", "mean 10 -10", "mean 7 -7", "span", "stuck 3 -3", "stuck 7 -7"]
        self.assertEqual([console.execute(command) for command in commands],
                         ["ok", "ok", "15/2", "5", "7", "3 6 9 12", "none"])
        commands = ["time 100 10 -10", "time 5 3 -3", "time -1"]
        self.assertEqual([console.execute(command) for command in commands], ["14", "none", "0"])

    def test_the_errors(self):
        self.assert_refused(Console(), "mean 7", Impossible)
        self.assert_refused(Console(), "device 3: 0 / 5: 5", InvalidCommand)
        for command in ("move 0", "rise 0", "pump 0 1"):
            self.assert_refused(Console(), command, InvalidNumber)


class CommandsTest(ConsoleTest):
    def test_at_first(self):
        console = Console()
        first = LiveBar(((10, [0]), (10, [0])), (0, 0))
        self.assertEqual(console.execute("state"), "0 0")
        self.assertEqual(console.execute("start"), "0 0")
        self.assertEqual(console.execute("span"), str(climbing_span(first.device, 0)))
        self.assertEqual(console.execute("stuck 9 -9"), "0")
        self.assertEqual(console.execute("stuck 10 -10"), "none")
        self.assertEqual(console.execute("mean 10 -10"), "10")
        self.assertEqual(console.execute("mean 9 -9"), "0")
        self.assert_refused(console, "undo", NothingToUndo)

    def test_devices_begin_where_the_ground_catches(self):
        for device in sample_devices():
            console = console_in(device)
            height = beginning(device)
            self.assertEqual(console.execute("state"), f"{height} 0")
            self.assertEqual(console.execute("start"), f"{height % device[0][0]} {height % device[1][0]}")
            self.assert_refused(console, "undo", NothingToUndo)

    def test_a_new_device_forgets_the_calls(self):
        console = console_in(NARROW)
        console.execute("move 7")
        self.assertEqual(console.execute("device 4: 2 3 / 7: 6"), "ok")
        self.assertEqual(console.execute("state"), "2 0")
        self.assert_refused(console, "undo", NothingToUndo)
        self.assertEqual(console.execute("device 3: 0 / 5: 0"), "ok")
        self.assertEqual(told(console), told(console_in(NARROW)))

    def test_drawn_calls_beside_a_live_bar(self):
        draw = random.Random(28)
        for device in sample_devices()[::3]:
            console, bar = console_in(device), LiveBar(device, (beginning(device), 0))
            for _ in range(40):
                size, times = draw.choice([1, 2, 5, 9, 30, GREAT]), draw.choice([1, 2, 7, GREAT])
                kind = draw.choice(["move", "move", "pump", "undo"])
                if kind == "move":
                    by = draw.choice([-1, 1]) * size
                    self.assertEqual(console.execute(f"move {by}"), "ok")
                    bar.move(by)
                elif kind == "pump":
                    self.assertEqual(console.execute(f"pump {size} {times}"), "ok")
                    bar.pump(size, times)
                elif len(bar):
                    self.assertEqual(console.execute("undo"), "ok")
                    bar.undo()
                else:
                    self.assert_refused(console, "undo", NothingToUndo)
                self.assertEqual(console.execute("state"), f"{bar.height} {bar.hand}")
                lift = bar.height - bar.hand
                self.assertEqual(console.execute("start"), f"{bar.height % device[0][0]} {lift % device[1][0]}")
                later = leaped(device, (bar.height, bar.hand), -size)
                self.assertEqual(console.execute(f"rise -{size}"), str(later[0] - bar.height))

    def test_questions_beside_the_functions(self):
        draw = random.Random(29)
        kinds = set()
        for device in sample_devices()[::4]:
            console, bar = console_in(device), LiveBar(device, (beginning(device), 0))
            for by in (draw.choice([3, -2, 8]), draw.choice([GREAT, -GREAT]), draw.choice([-7, 1])):
                console.execute(f"move {by}")
                bar.move(by)
                moves = drawn_moves(draw)
                text = (" " + format_moves(moves)) if moves else ""
                height = bar.height + draw.choice([-5, 0, 1, 3, 40, 10 ** 38])
                mean = expected_answer(mean_rise, device, bar.hand, moves)
                stuck = expected_answer(stuck_heights, device, bar.hand, moves)
                time = expected_answer(first_time, device, (bar.height, bar.hand), moves, height)
                expected = {
                    "span": str(climbing_span(device, bar.hand)),
                    "mean" + text: mean if mean is Impossible else fraction_text(*mean),
                    "stuck" + text: stuck if stuck is Impossible else " ".join(map(str, stuck)) or "none",
                }
                if len(str(abs(height))) <= 40:
                    expected[f"time {height}" + text] = "none" if time is None else str(time)
                for command, answer in expected.items():
                    self.assertEqual(self.answer(console, command), answer, (device, command))
                    word = command.split(" ")[0]
                    kinds.add((word, str(answer) == "none", answer is Impossible, "/" in str(answer)))
        for kind in (("mean", False, True, False), ("mean", False, False, False), ("stuck", True, False, False),
                     ("stuck", False, False, False), ("time", True, False, False), ("time", False, False, False)):
            self.assertIn(kind, kinds)

    def test_fractions(self):
        console = console_in(NARROW)
        rounds = [(span, -span) for span in (6, 7, 10, 12, 15)]
        answers = [console.execute(f"mean {up} {down}") for up, down in rounds]
        self.assertEqual(answers, ["0", "5", "15/2", "10", "15"])
        self.assertEqual(console.execute("mean 1" + "0" * 30 + " -1" + "0" * 30), "1" + "9" * 29 + "5/2")

    def test_numbers_of_forty_digits(self):
        console = console_in(NARROW)
        self.assertEqual(console.execute(f"rise {GREAT}"), str(GREAT))
        self.assertEqual(console.execute(f"move {GREAT}"), "ok")
        self.assertEqual(console.execute("state"), f"{GREAT} {GREAT}")
        self.assertEqual(console.execute(f"time {GREAT} 7"), "0")
        self.assertEqual(console.execute(f"time -{GREAT}"), "0")
        self.assertEqual(console.execute(f"pump {GREAT} {GREAT}"), "ok")
        bar = LiveBar(NARROW, (0, 0))
        bar.move(GREAT)
        bar.pump(GREAT, GREAT)
        self.assertEqual(console.execute("state"), f"{bar.height} {bar.hand}")
        self.assertGreater(bar.height, 10 ** 79)
        self.assertEqual(console.execute("span"), str(climbing_span(NARROW, GREAT)))
        self.assertEqual(console.execute(f"move -{GREAT}"), "ok")
        self.assertEqual(console.execute("undo"), "ok")
        self.assertEqual(console.execute("undo"), "ok")
        self.assertEqual(console.execute("state"), f"{GREAT} {GREAT}")

    def test_forty_moves(self):
        console = console_in(NARROW)
        self.assertEqual(console.execute("mean" + " 7 -7" * 20), fraction_text(*mean_rise(NARROW, 0, [7, -7] * 20)))
        self.assertEqual(console.execute("time 30" + " 7 -7" * 20), str(first_time(NARROW, (0, 0), [7, -7] * 20, 30)))
        self.assertEqual(console.execute("stuck" + " 1 -1" * 20), "0 3 6 9 10 12")

    def test_two_hundred_calls(self):
        console = console_in(NARROW)
        answers = []
        for at in range(200):
            answers.append(told(console))
            self.assertEqual(console.execute(f"move {7 if at % 2 else -4}"), "ok")
        for before in reversed(answers):
            self.assertEqual(console.execute("undo"), "ok")
            self.assertEqual(told(console), before)
        self.assert_refused(console, "undo", NothingToUndo)

    def test_consoles_are_apart(self):
        one, other = Console(), Console()
        one.execute("move 4")
        self.assertEqual((one.execute("state"), other.execute("state")), ("4 4", "0 0"))
        self.assertEqual(one.execute(command="state"), "4 4")

    def test_held_heights_at_a_hand(self):
        console = console_in(NARROW)
        for by in (1, 3, -9):
            console.execute(f"move {by}")
        hand = int(console.execute("state").split(" ")[1])
        stuck = [height for height in held_at(NARROW, hand) if once(NARROW, (height, hand), [1, -1])[0] == height]
        self.assertEqual(console.execute("stuck 1 -1"), " ".join(map(str, stuck)))


class WrongTest(ConsoleTest):
    def consoles(self):
        console = console_in(NARROW)
        console.execute("move 7")
        console.execute("pump 10 2")
        return [Console(), console]

    def test_what_has_no_form(self):
        for console in self.consoles():
            before = told(console)
            for command in NO_COMMANDS:
                self.assert_refused(console, command, InvalidCommand)
                self.assertEqual(told(console), before, command[:50])

    def test_what_is_no_string(self):
        for console in self.consoles():
            before = told(console)
            for command in NO_NUMBERS + ODD_VALUES + [["state"], ("state",), b"state", {"state": 1}]:
                if not isinstance(command, str):
                    self.assert_refused(console, command, InvalidCommand)
            self.assertEqual(told(console), before)

    def test_what_calls_and_functions_raise(self):
        cases = [("move 0", InvalidNumber), ("rise 0", InvalidNumber), ("pump 0 1", InvalidNumber),
                 ("pump 1 0", InvalidNumber), ("pump 0 0", InvalidNumber), ("mean", Impossible), ("mean 7", Impossible),
                 ("mean 7 -6", Impossible), ("stuck", Impossible), ("stuck -7", Impossible), ("stuck 7 -8", Impossible),
                 ("mean " + "1 " * 39 + "1", Impossible), (f"mean {GREAT}", Impossible)]
        for console in self.consoles():
            before = told(console)
            for command, kind in cases:
                self.assert_refused(console, command, kind)
                self.assertEqual(told(console), before)

    def test_refused_commands_are_not_taken_back(self):
        console = self.consoles()[1]
        for command in ("move 0", "pump 0 1", "device 3: 0", "mean 7", "move", "rise 7", "state", "time 5 0"):
            raised(console.execute, command)
        self.assertEqual([console.execute(command) for command in ("state", "undo", "state", "undo", "state")],
                         ["21 7", "ok", "7 7", "ok", "0 0"])
        self.assert_refused(console, "undo", NothingToUndo)
        self.assertEqual(told(console), told(console_in(NARROW)))

    def test_the_form_is_told_ahead_of_the_calls(self):
        for command in ("move 0 0", "pump 0 -1", "pump 0 x", "mean 7 0", "undo 0", "rise 0 1", "stuck 7 0", "time 0 0"):
            self.assert_refused(Console(), command, InvalidCommand)


if __name__ == "__main__":
    unittest.main()
