"""Part 11: devices, moves and states as texts [26], and back [27]."""

import itertools
import random
import re
import unittest

from tests import helpers
from tests.helpers import (FULL, FULL_23, GREAT, NARROW, NO_DEVICES, NO_NUMBERS, WIDE, catches_at, held_at, raised,
                           sample_combs, sample_devices)
from twocombs.errors import InvalidDevice, InvalidSyntax
from twocombs.texts import format_device, format_moves, format_state, parse_device, parse_moves, parse_state

COUNT = "(?:0|[1-9][0-9]{0,39})"
NUMBER = "(?:0|-?[1-9][0-9]{0,39})"
DEVICE = ((10, [0, 3]), (5, [0]))
FULL_DEVICE = (FULL, FULL_23)
NO_STRINGS = [value for value in NO_NUMBERS if not isinstance(value, str)] + [0, 1, GREAT, ["10:"], ("3 0",), (0, 0)]
# Words that are no numbers, whatever stands beside them.
NO_NUMBER_WORDS = [
    "", "-", "-0", "00", "01", "-01", "007", "+1", "--1", "1-", "1.0", "1e3", "0x1", "1_0", "a", "1a", "-a", "/", ":",
    "1:", "1,", "\n", "1\n", "\n1", "(1)", "1" * 41, "-" + "1" * 41, "0" * 40, "1" * 5000, "-" + "9" * 9000, "1/",
    "'1'", "None", "True",
]


def device_begins(words):
    """Tell whether words are the first ones of the text of some device, or all of them."""
    form = f"({COUNT}):((?: {COUNT})*)(?:( /)(?: ({COUNT}):((?: {COUNT})*))?)?"
    match = re.fullmatch(form, " ".join(words))
    if match is None:
        return False
    for pitch, teeth in ((match[1], match[2]), (match[4], match[5])):
        numbers = [int(tooth) for tooth in (teeth or "").split()]
        if pitch is not None and not 1 <= int(pitch) <= 24:
            return False
        if numbers != sorted(set(numbers)) or (numbers and numbers[-1] >= int(pitch)):
            return False
    return match[3] is None or match[2] != ""


def device_wrong(text):
    """Return the index that parse_device tells of a text, None if it is that of a device."""
    words = text.split(" ")
    for at in range(len(words)):
        if not device_begins(words[:at + 1]):
            return at
    last = words[-1]
    return None if "/" in words and not last.endswith(":") and last != "/" else len(words)


def moves_wrong(text):
    """Return the index that parse_moves tells of a text, None if it is that of moves."""
    for at, word in enumerate(text.split(" ") if text else []):
        if at >= 40 or word == "0" or not re.fullmatch(NUMBER, word):
            return at
    return None


def state_wrong(device, text):
    """Return the index that parse_state tells of a text, None if it is that of a state."""
    words = text.split(" ")
    for at, word in enumerate(words[:2]):
        if not re.fullmatch(NUMBER, word):
            return at
    if len(words) < 2:
        return len(words)
    height, hand = int(words[0]), int(words[1])
    if not catches_at(device[0], height) and not catches_at(device[1], height - hand):
        return 1
    return 2 if len(words) > 2 else None


def drawn_text(draw, words, others):
    """Return a text of these words with some of them dropped, doubled, exchanged or put otherwise."""
    words = list(words)
    for _ in range(draw.choice([0, 1, 1, 2, 3])):
        at = draw.randrange(len(words) + 1)
        kind = draw.randrange(5)
        if kind == 0:
            del words[at:at + 1]
        elif kind == 1:
            words.insert(at, draw.choice(others))
        elif kind == 2:
            words[at:at + 1] = [draw.choice(others)]
        elif kind == 3:
            words = words[:at]
        else:
            words[at:at] = words[at:at + 1]
    return " ".join(words)


class ExamplesTest(unittest.TestCase):
    def test_written(self):
        self.assertEqual(format_device(DEVICE), "10: 0 3 / 5: 0")
        self.assertEqual((format_moves([7, -7]), format_moves([]), format_state((3, -20))), ("7 -7", "", "3 -20"))

    def test_read(self):
        self.assertEqual(parse_device("10: 0 3 / 5: 0"), DEVICE)
        self.assertEqual((parse_moves("7 -7"), parse_moves(""), parse_state(DEVICE, "3 -20")), ([7, -7], [], (3, -20)))

    def test_not_read(self):
        for call, given, word in ((parse_device, ("10: 3 0 / 5: 0",), 2), (parse_device, ("10: 0 3",), 3),
                                  (parse_state, (DEVICE, "4 0"), 1), (parse_moves, ("7 0",), 1)):
            error = raised(call, *given)
            self.assertEqual((type(error), vars(error)), (InvalidSyntax, {"word": word}))


class SyntaxTest(unittest.TestCase):
    def assert_wrong(self, word, call, *given):
        error = raised(call, *given)
        self.assertEqual((type(error), getattr(error, "word", "none")), (InvalidSyntax, word), given)
        self.assertEqual(vars(error), {"word": word})

    def assert_read(self, wrong, call, *given):
        if wrong is None:
            return call(*given)
        self.assert_wrong(wrong, call, *given)
        return None


class DeviceTest(SyntaxTest):
    def test_written_and_read_again(self):
        combs = sample_combs()
        for ground, grip in list(itertools.product(combs, combs))[::3] + [(FULL, FULL_23)]:
            text = format_device((ground, grip))
            self.assertEqual(parse_device(text), (ground, grip))
            self.assertEqual(format_device(parse_device(text)), text)
            self.assertIsNone(device_wrong(text))

    def test_written(self):
        self.assertEqual(format_device(((1, [0]), (24, [23]))), "1: 0 / 24: 23")
        self.assertEqual(format_device((FULL, (1, [0]))), "24: " + " ".join(map(str, range(24))) + " / 1: 0")

    def test_kinds(self):
        told = parse_device("10: 0 3 / 5: 0")
        self.assertEqual([type(part) for part in (told, told[0], told[0][0], told[0][1], told[1][1])],
                         [tuple, tuple, int, list, list])

    def test_drawn_texts(self):
        draw = random.Random(27)
        others = ["", "/", ":", "0", "1", "2", "3", "4", "9", "10", "10:", "5:", "1:", "24:", "25:", "0:", "-1", "-0",
                  "00", "05:", "5:5", "/5:", "24", "-5:", "1" * 41, "1" * 41 + ":", "5: ", "\n"]
        found = set()
        for device in (sample_devices() + [DEVICE]) * 12:
            text = drawn_text(draw, format_device(device).split(" ")[:40], others)
            wrong = device_wrong(text)
            found.add(wrong)
            told = self.assert_read(wrong, parse_device, text)
            if wrong is None:
                self.assertEqual(format_device(told), text)
        self.assertTrue({None, 0, 1, 2, 3, 4, 5, 6, 7} <= found)

    def test_each_wrong_word(self):
        words = "10: 0 3 / 5: 0".split(" ")
        for at in range(7):
            for wrong in NO_NUMBER_WORDS + ["-1", "-3"]:
                text = " ".join(words[:at] + [wrong] + words[at + 1:])
                if device_wrong(text) is not None:
                    self.assert_wrong(device_wrong(text), parse_device, text)
                    if wrong not in ("/", "1:"):
                        self.assertEqual(device_wrong(text), at)

    def test_missing_words(self):
        words = "10: 0 3 / 5: 0 1 4".split(" ")
        for many in range(1, 6):
            self.assert_wrong(many, parse_device, " ".join(words[:many]))
        for many in range(6, 9):
            self.assertIsNone(raised(parse_device, " ".join(words[:many])))
        self.assert_wrong(25, parse_device, "24: " + " ".join(map(str, range(24))))

    def test_pitches(self):
        for pitch in range(1, 25):
            self.assertEqual(parse_device(f"{pitch}: 0 / {pitch}: {pitch - 1}"), ((pitch, [0]), (pitch, [pitch - 1])))
        for pitch in ("0", "-1", "25", "26", "100", "-0", "01", "024", "", " ", "+1", "1" * 40, "1" * 41, "24 "):
            self.assert_wrong(0, parse_device, f"{pitch}: 0 / 5: 0")
            self.assert_wrong(3, parse_device, f"5: 0 / {pitch}: 0")
        for word in ("5", "5;", ":", "5::", ":5", "5:0", "5:0 / 5:0"):
            self.assert_wrong(0, parse_device, word + " 0 / 5: 0")

    def test_teeth(self):
        self.assert_wrong(1, parse_device, "5: 5 / 5: 0")
        self.assert_wrong(4, parse_device, "5: 0 / 5: 5")
        self.assert_wrong(2, parse_device, "5: 0 5 / 5: 0")
        self.assert_wrong(2, parse_device, "5: 0 0 / 5: 0")
        self.assert_wrong(3, parse_device, "5: 0 3 2 / 5: 0")
        self.assert_wrong(6, parse_device, "5: 0 / 5: 1 3 3")
        self.assert_wrong(2, parse_device, "1: 0 1 / 5: 0")
        self.assert_wrong(1, parse_device, "5: / 5: 0")
        self.assert_wrong(4, parse_device, "5: 0 / 5: /")
        self.assert_wrong(3, parse_device, "5: 0 / / 5: 0")
        self.assert_wrong(5, parse_device, "5: 0 / 5: 0 / 5: 0")
        self.assert_wrong(5, parse_device, "5: 0 / 5: 0 5:")
        self.assert_wrong(2, parse_device, "5: 0 5: 0")
        self.assert_wrong(1, parse_device, "5: " + "1" * 41 + " / 5: 0")

    def test_spaces(self):
        for text, word in (("", 0), (" ", 0), (" 10: 0 / 5: 0", 0), ("10:  0 / 5: 0", 1), ("10: 0  / 5: 0", 2),
                           ("10: 0 /  5: 0", 3), ("10: 0 / 5:  0", 4), ("10: 0 / 5: 0 ", 5), ("10: 0 / 5: 0  ", 5),
                           ("10: 0 ", 2), ("10: 0\n/ 5: 0", 1), ("10: 0 / 5: 0\n", 4), ("10:\t0 / 5: 0", 0)):
            self.assert_wrong(word, parse_device, text)

    def test_long_texts(self):
        self.assert_wrong(1, parse_device, "10: " + "x" * 9000)
        self.assert_wrong(0, parse_device, " " * 10000)
        self.assert_wrong(0, parse_device, "1" * 9999 + ":")
        self.assert_wrong(5, parse_device, "10: 0 / 5: 0" + " /" * 4900)
        self.assert_wrong(25, parse_device, "24: " + " ".join(map(str, range(3000)))[:9990])

    def test_no_strings(self):
        for value in NO_STRINGS + helpers.ODD_VALUES:
            if not isinstance(value, str):
                self.assert_wrong(None, parse_device, value)


class MovesTest(SyntaxTest):
    def test_written_and_read_again(self):
        draw = random.Random(26)
        for many in range(41):
            moves = [draw.choice([-1, 1]) * draw.choice([1, 9, 10, 24, 105, GREAT, 10 ** 39]) for _ in range(many)]
            self.assertEqual(parse_moves(format_moves(moves)), moves)
            self.assertEqual(format_moves(moves), " ".join(map(str, moves)))

    def test_drawn_texts(self):
        draw = random.Random(28)
        found = set()
        for many in list(range(43)) * 8:
            words = [str(draw.choice([1, -1, 20, -10, GREAT, -GREAT])) for _ in range(many)]
            others = ["", "0", "-0", "7", "01", "x", "1" * 40, "1" * 41, "-" + "1" * 41, "/", "1:"]
            text = drawn_text(draw, words, others)
            wrong = moves_wrong(text)
            found.add(wrong)
            told = self.assert_read(wrong, parse_moves, text)
            if wrong is None:
                self.assertEqual(format_moves(told), text)
        self.assertTrue({None, 0, 1, 2, 40} <= found, found)

    def test_each_wrong_word(self):
        for at in range(4):
            for wrong in NO_NUMBER_WORDS + ["0"]:
                words = ["7", "-7", str(GREAT), "1"]
                words[at] = wrong
                self.assert_wrong(at, parse_moves, " ".join(words))

    def test_a_forty_first_move(self):
        self.assertEqual(parse_moves("1 -1 " * 19 + "1 -1"), [1, -1] * 20)
        self.assert_wrong(40, parse_moves, "1 " * 40 + "1")
        self.assert_wrong(40, parse_moves, "1 " * 40 + "0")
        self.assert_wrong(40, parse_moves, "1 " * 40)
        self.assert_wrong(40, parse_moves, "1 " * 4999 + "1")
        self.assert_wrong(39, parse_moves, "1 " * 39 + "0 1")
        self.assert_wrong(0, parse_moves, "x " * 4999)

    def test_spaces(self):
        for text, word in ((" ", 0), ("  ", 0), (" 7", 0), ("7 ", 1), ("7  7", 1), ("7 7 ", 2), ("7\n7", 0), ("\n", 0)):
            self.assert_wrong(word, parse_moves, text)
        self.assertEqual(parse_moves(""), [])

    def test_digits(self):
        for word in ("9" * 40, "1" + "0" * 39, "-" + "9" * 40, "10", "-10", "1"):
            self.assertEqual(parse_moves(word), [int(word)])
            self.assertEqual(parse_moves(word + " " + word), [int(word)] * 2)

    def test_no_strings(self):
        for value in NO_STRINGS + helpers.ODD_VALUES:
            if not isinstance(value, str):
                self.assert_wrong(None, parse_moves, value)


class StateTest(SyntaxTest):
    def test_written_and_read_again(self):
        for device in sample_devices():
            for hand in (0, 5, -5, GREAT, -GREAT):
                for height in held_at(device, hand)[:3]:
                    text = format_state((height, hand))
                    self.assertEqual(text, f"{height} {hand}")
                    self.assertEqual(parse_state(device, text), (height, hand))
                    self.assertIs(type(parse_state(device, text)), tuple)

    def test_great_numbers(self):
        self.assertEqual(format_state((10 ** 80, -10 ** 80)), "1" + "0" * 80 + " -1" + "0" * 80)
        self.assertEqual(format_moves([10 ** 80, -10 ** 41]), "1" + "0" * 80 + " -1" + "0" * 41)
        self.assertEqual(parse_state(FULL_DEVICE, f"{GREAT} {-GREAT}"), (GREAT, -GREAT))
        self.assert_wrong(0, parse_state, FULL_DEVICE, "1" + "0" * 40 + " 0")
        self.assert_wrong(1, parse_state, FULL_DEVICE, "0 1" + "0" * 40)

    def test_drawn_texts(self):
        draw = random.Random(29)
        found = set()
        for device in (sample_devices() + [DEVICE]) * 25:
            words = [str(draw.choice([0, 1, 3, 5, -4, 10, GREAT])), str(draw.choice([0, 1, -1, 7, GREAT]))]
            text = drawn_text(draw, words, ["", "0", "-0", "7", "01", "x", "1" * 41, "/", "10"])
            wrong = state_wrong(device, text)
            found.add(wrong)
            told = self.assert_read(wrong, parse_state, device, text)
            if wrong is None:
                self.assertEqual(format_state(told), text)
        self.assertEqual(found, {None, 0, 1, 2})

    def test_each_wrong_word(self):
        for wrong in NO_NUMBER_WORDS:
            self.assert_wrong(0, parse_state, WIDE, wrong + " 0")
            self.assert_wrong(1, parse_state, WIDE, "3 " + wrong)
            self.assert_wrong(2, parse_state, WIDE, "3 0 " + wrong)

    def test_states_that_the_device_does_not_hold(self):
        for device in (WIDE, NARROW, ((24, [0]), (23, [4]))):
            for height in range(-30, 30):
                for hand in range(-5, 6):
                    text = f"{height} {hand}"
                    self.assert_read(state_wrong(device, text), parse_state, device, text)
                    self.assert_read(state_wrong(device, text + " 0"), parse_state, device, text + " 0")

    def test_missing_and_more_words(self):
        self.assert_wrong(1, parse_state, WIDE, "3")
        self.assert_wrong(1, parse_state, WIDE, "4")
        self.assert_wrong(0, parse_state, WIDE, "")
        self.assert_wrong(0, parse_state, WIDE, " ")
        self.assert_wrong(1, parse_state, WIDE, "3 ")
        self.assert_wrong(2, parse_state, WIDE, "3 0 ")
        self.assert_wrong(2, parse_state, WIDE, "3 0 0")
        self.assert_wrong(1, parse_state, WIDE, "4 0 0")
        self.assert_wrong(1, parse_state, WIDE, "3  0")
        self.assert_wrong(0, parse_state, WIDE, " 3 0")
        self.assert_wrong(1, parse_state, WIDE, "3 0\n")

    def test_wrong_devices_come_first(self):
        for value, index in NO_DEVICES:
            for text in ("3 0", "x", None):
                error = raised(parse_state, value, text)
                self.assertEqual((type(error), vars(error)), (InvalidDevice, {"index": index}))

    def test_no_strings(self):
        for value in NO_STRINGS + helpers.ODD_VALUES:
            if not isinstance(value, str):
                self.assert_wrong(None, parse_state, WIDE, value)


if __name__ == "__main__":
    unittest.main()
