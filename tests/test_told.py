"""Part 9: where a bar can have begun whose rises were seen [21], [22]."""

import random
import unittest

from tests.helpers import FULL, FULL_23, GREAT, NARROW, WIDE, leaped, raised, sample_devices
from twocombs.errors import Impossible
from twocombs.told import clash_index, fitting_starts, range_of_rises, sure_rise, telling_move

ONE = (1, [0])
SMALL = [NARROW, WIDE, (ONE, ONE), ((2, [1]), (3, [0])), ((3, [0, 2]), (2, [0])), ((4, [0, 1]), (6, [2, 5])),
         ((5, [1, 4]), ONE), (ONE, (5, [2])), ((2, [0, 1]), (2, [0, 1])), ((3, [1]), (3, [1]))]
GREAT_DEVICES = [((24, [0]), (23, [0])), ((23, [4, 21]), (24, [5, 6, 17, 18])), ((24, [0, 7, 8]), FULL_23),
                 (FULL, FULL), ((24, [3]), (24, [3])), (ONE, (24, [11])), ((24, [11]), ONE)]


def all_starts(device):
    """Return all starts of a device, ascending."""
    (pitch, teeth), (width, marks) = device
    return [(above, lift) for above in range(pitch) for lift in range(width) if above in teeth or lift in marks]


def rises_from(device, start, moves):
    """Return the rises of moves from a start."""
    state = start[0], start[0] - start[1]
    rises = []
    for move in moves:
        later = leaped(device, state, move)
        rises.append(later[0] - state[0])
        state = later
    return rises


def seen_from(device, start, looks):
    """Tell whether the looks are seen from a start."""
    return rises_from(device, start, [move for move, _ in looks]) == [rise for _, rise in looks]


def starts_of(device, looks):
    """Return the starts from which the looks are seen; all are gone through."""
    return [start for start in all_starts(device) if seen_from(device, start, looks)]


def last_rises(device, looks, move):
    """Return the rises of one more move from all starts that fit the looks."""
    return [rises_from(device, start, [size for size, _ in looks] + [move])[-1] for start in starts_of(device, looks)]


def drawn_moves(draw, many):
    """Return so many drawn moves."""
    return [draw.choice([-1, 1]) * draw.choice([1, 1, 2, 3, 4, 6, 9, 25, 10 ** 39 + 7]) for _ in range(many)]


def drawn_looks(draw, device, many):
    """Return the looks of a drawn start, now and then with one rise otherwise."""
    moves = drawn_moves(draw, many)
    rises = rises_from(device, draw.choice(all_starts(device)), moves)
    if many and draw.random() < 0.3:
        rises[draw.randrange(many)] += draw.choice([-1, 1, 2, GREAT])
    return list(zip(moves, rises))


def drawn_cases():
    """Return cases (device, looks)."""
    draw = random.Random(21)
    cases = [(device, drawn_looks(draw, device, draw.choice([0, 1, 1, 2, 3, 5, 12])))
             for device in SMALL + sample_devices()[::4] for _ in range(12)]
    return cases + [(device, drawn_looks(draw, device, many)) for device in GREAT_DEVICES for many in (0, 1, 2, 12)]


class ExamplesTest(unittest.TestCase):
    def test_starts(self):
        self.assertEqual(fitting_starts(NARROW, []), [(0, 0), (0, 1), (0, 2), (0, 3), (0, 4), (1, 0), (2, 0)])
        self.assertEqual(fitting_starts(NARROW, [(4, 1)]), [(0, 3)])
        self.assertEqual(fitting_starts(NARROW, [(-2, -1)]), [(1, 0)])
        self.assertEqual(fitting_starts(NARROW, [(4, 5)]), [])

    def test_clashes(self):
        looks = ([(4, 1)], [(4, 1), (-4, -2)], [(4, 5), (1, 0)])
        self.assertEqual([clash_index(NARROW, row) for row in looks], [None, 1, 0])

    def test_rises(self):
        self.assertEqual([sure_rise(NARROW, [(4, 1)], move) for move in (3, -3)], [3, -1])
        self.assertEqual([sure_rise(NARROW, [], move) for move in (-1, 9)], [None, None])
        self.assertEqual([range_of_rises(NARROW, [], move) for move in (3, -3, 9)], [(0, 3), (-2, 0), (5, 9)])
        self.assertEqual(range_of_rises(NARROW, [(4, 1)], 3), (3, 3))
        self.assertIs(type(raised(sure_rise, NARROW, [(4, 5)], 1)), Impossible)

    def test_telling_moves(self):
        looks = ([], [(1, 1)], [(1, 0)], [(4, 1)], [(1, 1), (-1, -1)])
        self.assertEqual([telling_move(NARROW, row) for row in looks], [1, -1, 1, None, -1])

    def test_the_moves_of_the_definitions(self):
        self.assertEqual(rises_from(WIDE, (0, 0), [7, -7]), [7, -4])
        self.assertIn((0, 0), fitting_starts(WIDE, [(7, 7), (-7, -4)]))
        self.assertIn((3, 3), fitting_starts(WIDE, [(2, 0), (5, 4), (-7, -4)]))


class StartsTest(unittest.TestCase):
    def test_all_starts_gone_through(self):
        found = set()
        for device, looks in drawn_cases():
            expected = starts_of(device, looks)
            self.assertEqual(fitting_starts(device, looks), expected, (device, looks))
            found.add(min(len(expected), 4))
        self.assertEqual(found, {0, 1, 2, 3, 4})

    def test_no_looks(self):
        for device in SMALL + sample_devices() + GREAT_DEVICES:
            told = fitting_starts(device, [])
            self.assertEqual(told, all_starts(device))
            self.assertEqual({type(start) for start in told}, {tuple})
            self.assertIsNone(clash_index(device, []))
        self.assertEqual(fitting_starts((ONE, ONE), []), [(0, 0)])
        self.assertEqual(len(fitting_starts((FULL, FULL), [])), 576)
        self.assertEqual(len(fitting_starts(((24, [0]), (23, [5])), [])), 46)

    def test_moves_of_forty_digits(self):
        for device in SMALL + GREAT_DEVICES:
            starts = all_starts(device)
            for start in starts[::1 + len(starts) // 6]:
                for moves in ([GREAT], [-GREAT], [GREAT, -GREAT], [-GREAT, 1, GREAT, -3]):
                    looks = list(zip(moves, rises_from(device, start, moves)))
                    self.assertEqual(fitting_starts(device, looks), starts_of(device, looks))
                    self.assertIn(start, fitting_starts(device, looks))

    def test_rises_that_no_move_has(self):
        for device in SMALL + GREAT_DEVICES:
            for look in ((3, 4), (3, -1), (-3, 1), (-3, -4), (1, GREAT), (-1, -GREAT), (GREAT, 0)):
                self.assertEqual(fitting_starts(device, [look]), [])
                self.assertEqual(clash_index(device, [look, (1, 1)]), 0)
                self.assertEqual(clash_index(device, [(-GREAT, rises_from(device, all_starts(device)[0], [-GREAT])[0]),
                                                      look]), 1)


class ClashTest(unittest.TestCase):
    def test_all_starts_gone_through(self):
        found = set()
        for device, looks in drawn_cases():
            clashes = [at for at in range(len(looks)) if not starts_of(device, looks[:at + 1])]
            expected = clashes[0] if clashes else None
            self.assertEqual(clash_index(device, looks), expected, (device, looks))
            found.add(expected)
        self.assertTrue({0, 1, 2, None} <= found)

    def test_at_the_last_of_twelve(self):
        looks = [(1, 1), (-1, 0)] * 6
        self.assertIsNone(clash_index((ONE, ONE), looks))
        for at in range(12):
            wrong = looks[:at] + [(looks[at][0], 7)] + looks[at + 1:]
            self.assertEqual(clash_index((ONE, ONE), wrong), at)
            self.assertEqual(clash_index((ONE, ONE), wrong[:at]), None)


class RisesTest(unittest.TestCase):
    def test_all_starts_gone_through(self):
        draw = random.Random(22)
        sure = 0
        for device, looks in drawn_cases():
            for move in drawn_moves(draw, 3) + [1, -1]:
                rises = last_rises(device, looks, move)
                for call in (sure_rise, range_of_rises):
                    self.assertEqual(type(raised(call, device, looks, move)), type(None) if rises else Impossible)
                if rises:
                    expected = rises[0] if len(set(rises)) == 1 else None
                    sure += len(looks) < 3 and expected is not None
                    self.assertEqual(sure_rise(device, looks, move), expected, (device, looks, move))
                    told = range_of_rises(device, looks, move)
                    self.assertEqual(told, (min(rises), max(rises)), (device, looks, move))
                    self.assertIs(type(told), tuple)
        self.assertGreater(sure, 50)

    def test_a_rise_of_nothing_is_sure(self):
        self.assertEqual(sure_rise((ONE, ONE), [], -5), 0)
        self.assertEqual(sure_rise((FULL, FULL_23), [], -GREAT), 0)
        self.assertEqual(sure_rise((FULL, FULL_23), [], GREAT), GREAT)
        self.assertEqual(range_of_rises(((24, [0]), (23, [0])), [], GREAT), (GREAT - 22, GREAT))
        self.assertEqual(range_of_rises(((24, [0]), (23, [0])), [], -GREAT), (-23, 0))


class TellingTest(unittest.TestCase):
    def test_all_moves_gone_through(self):
        found = set()
        sizes = [sign * size for size in range(1, 27) for sign in (1, -1)]
        cases = [(device, looks) for device, looks in drawn_cases() if len(all_starts(device)) < 60]
        for device, looks in cases:
            telling = [move for move in sizes if len(set(last_rises(device, looks, move))) > 1]
            if starts_of(device, looks):
                expected = telling[0] if telling else None
                self.assertEqual(telling_move(device, looks), expected, (device, looks))
                found.add(expected)
            else:
                self.assertIs(type(raised(telling_move, device, looks)), Impossible)
        self.assertTrue({1, -1, -2, 3, None} <= found, found)

    def test_devices_in_which_no_move_tells(self):
        for device in ((ONE, ONE), (FULL, FULL), (FULL, FULL_23), ((2, [0, 1]), ONE)):
            self.assertIsNone(telling_move(device, []))
            self.assertIsNone(telling_move(device, [(3, 3), (-7, 0)]))

    def test_up_ahead_of_down(self):
        self.assertEqual(telling_move(((2, [0]), (2, [0])), []), 1)
        self.assertEqual(telling_move((ONE, (2, [0])), []), 1)
        self.assertEqual(telling_move(((2, [0]), ONE), []), -1)

    def test_told_again_and_again_one_place_is_left(self):
        for device in SMALL + GREAT_DEVICES[:3]:
            for start in all_starts(device)[::7]:
                moves, looks = [], []
                while len(looks) < 12 and telling_move(device, looks) is not None:
                    before = len(fitting_starts(device, looks))
                    moves.append(telling_move(device, looks))
                    looks = list(zip(moves, rises_from(device, start, moves)))
                    self.assertLess(len(fitting_starts(device, looks)), before)
                self.assertIn(start, fitting_starts(device, looks))


if __name__ == "__main__":
    unittest.main()
