"""What one part tells of a bar is what another part tells: the guarantees [4] over the whole program."""

import random
import unittest

from tests.helpers import (FULL, FULL_23, GREAT, NARROW, WIDE, common, held_at, power_rise, sample_devices, start_of,
                           start_table)
from twocombs.alike import alike_state, are_alike, parting_moves, plain_device
from twocombs.best import best_height, best_moves
from twocombs.combs import catch_count, is_device, plain_comb, widest_gap
from twocombs.console import Console
from twocombs.joining import joining_moves, joining_round, parted_by
from twocombs.live import LiveBar
from twocombs.means import held_heights, lasting_heights, mean_rise, settling_rounds, stuck_heights
from twocombs.moving import is_state, joined_moves, mirror_device, mirror_state, moved_state, state_trail
from twocombs.rounds import far_state, first_time, round_cycle
from twocombs.spans import climbing_span, span_for, span_rise
from twocombs.texts import format_device, format_moves, format_state, parse_device, parse_moves, parse_state
from twocombs.told import clash_index, fitting_starts, range_of_rises, sure_rise, telling_move

DEVICES = [NARROW, WIDE, ((1, [0]), (1, [0])), ((4, [0, 1]), (6, [2, 5])), ((8, [0, 3]), (7, [6])), (FULL, FULL_23),
           ((24, [0]), (23, [0])), ((23, [4, 21]), (24, [5, 6, 17, 18]))]
SIZES = [1, 2, 3, 5, 8, 13, 24, 100, 10 ** 39 + 11]


def drawn_state(draw, device):
    """Return a drawn state of a device."""
    hand = draw.choice([0, 1, -7, GREAT, -GREAT, draw.randint(-99, 99)])
    return draw.choice(held_at(device, hand)), hand


def drawn_moves(draw, most=12):
    """Return some drawn moves."""
    return [draw.choice([-1, 1]) * draw.choice(SIZES) for _ in range(draw.randint(0, most))]


def cases(seed, many=10):
    """Return cases (device, state, moves)."""
    draw = random.Random(seed)
    return [(device, drawn_state(draw, device), drawn_moves(draw)) for device in DEVICES for _ in range(many)]


def moved_bar(device, state, moves):
    """Return a live bar behind moves."""
    bar = LiveBar(device, state)
    for move in moves:
        bar.move(move)
    return bar


def console_in(device):
    """Return a console in a device."""
    console = Console()
    console.execute("device " + format_device(device))
    return console


class LiveTest(unittest.TestCase):
    def test_a_live_bar_and_moved_states(self):
        for device, state, moves in cases(1):
            bar = moved_bar(device, state, moves)
            trail = state_trail(device, state, moves)
            self.assertEqual((bar.height, bar.hand), moved_state(device, state, moves))
            heights = [state[0]] + [height for height, _ in trail]
            self.assertEqual(bar.rises, [high - low for low, high in zip(heights, heights[1:])])
            self.assertEqual(bar.log, [("move", move) for move in moves])
            for height, hand in reversed([state] + trail[:-1]):
                if moves:
                    bar.undo()
                    self.assertEqual((bar.height, bar.hand), (height, hand))

    def test_joined_moves_lead_to_the_same_place(self):
        for device, state, moves in cases(2):
            one, other = moved_bar(device, state, moves), moved_bar(device, state, joined_moves(moves))
            self.assertEqual((one.height, one.hand, sum(one.rises)), (other.height, other.hand, sum(other.rises)))

    def test_a_mirrored_bar(self):
        for device, state, moves in cases(3):
            bar = moved_bar(device, state, moves)
            other = moved_bar(mirror_device(device), mirror_state(state), [-move for move in moves])
            self.assertEqual((other.height, other.hand), mirror_state((bar.height, bar.hand)))

    def test_pumping_and_far_states(self):
        for device, state, _ in cases(4, 4):
            for span in (1, 7, 24, 47, GREAT):
                for times in (1, 2, 50, 10 ** 39):
                    bar = LiveBar(device, state)
                    bar.pump(span, times)
                    self.assertEqual((bar.height, bar.hand), far_state(device, state, [span, -span], times))
                    self.assertEqual(bar.rises, [bar.height - state[0]])

    def test_far_states_and_tables_of_starts(self):
        for device, state, moves in cases(5, 2)[:10]:
            rise = power_rise(start_table(device, moves), start_of(device, state), 10 ** 40)
            height, hand = far_state(device, state, moves, 10 ** 40)
            self.assertEqual((height, hand), (state[0] + rise, state[1] + 10 ** 40 * sum(moves)))

    def test_pumping_for_ever_and_the_mean_rise(self):
        for device, state, _ in cases(6, 4):
            for span in (7, 24, 47, GREAT):
                top, bottom = span_rise(device, state[1], span)
                self.assertEqual((top, bottom), mean_rise(device, state[1], [span, -span]))
                ahead, length, rise = round_cycle(device, state, [span, -span])
                self.assertEqual(rise * bottom, top * length)
                bar = LiveBar(device, state)
                bar.pump(span, ahead + 1)
                before = bar.height
                bar.pump(span, length * 10 ** 30)
                self.assertEqual(bar.height - before, rise * 10 ** 30)
                if top > 0:
                    self.assertLessEqual(climbing_span(device, state[1]), span)
                    self.assertLessEqual(span_for(device, state[1], top, bottom), span)

    def test_first_times(self):
        for device, state, _ in cases(7, 4):
            for span in (24, 47):
                times = first_time(device, state, [span, -span], state[0] + 10 ** 30)
                bar = LiveBar(device, state)
                if times is not None:
                    bar.pump(span, times)
                    self.assertGreaterEqual(bar.height, state[0] + 10 ** 30)
                    bar.undo()
                    bar.pump(span, times - 1)
                    self.assertLess(bar.height, state[0] + 10 ** 30)

    def test_settled_heights(self):
        for device in DEVICES[:5]:
            for moves in ([7, -7], [3, -1, 2, -4], [GREAT, -GREAT]):
                rounds = settling_rounds(device, 5, moves)
                lasting = lasting_heights(device, 5, moves)
                self.assertTrue(set(stuck_heights(device, 5, moves)) <= set(lasting))
                bars = [moved_bar(device, (height, 5), []) for height in held_heights(device, 5)]
                for bar in bars:
                    for move in moves * rounds:
                        bar.move(move)
                    self.assertTrue(is_state(device, (bar.height, 5)))
                self.assertEqual(sorted({bar.height % common(device) for bar in bars}), lasting)

    def test_another_grip_is_another_device(self):
        for device, state, moves in cases(8):
            for grip in ((5, [0, 2]), FULL, (1, [0])):
                if is_state((device[0], grip), state):
                    bar = LiveBar(device, state)
                    bar.set_grip(grip)
                    for move in moves:
                        bar.move(move)
                    self.assertEqual((bar.height, bar.hand), moved_state((device[0], grip), state, moves))
                    self.assertEqual(bar.device, (device[0], grip))


class OtherPartsTest(unittest.TestCase):
    def test_starts_told_back_from_the_rises_of_a_live_bar(self):
        for device, state, moves in cases(9):
            bar = moved_bar(device, state, moves)
            looks = list(zip(moves, bar.rises))
            start = start_of(device, state)
            self.assertIn(start, fitting_starts(device, looks))
            self.assertIsNone(clash_index(device, looks))
            for move in (1, -1, 9, -GREAT):
                bar.move(move)
                least, greatest = range_of_rises(device, looks, move)
                self.assertTrue(least <= bar.rises[-1] <= greatest)
                self.assertIn(sure_rise(device, looks, move), (None, bar.rises[-1]))
                bar.undo()

    def test_telling_moves_and_parting_moves(self):
        # Two starts fit no look: a move tells them apart at once, or their devices part by two moves or by none.
        for device in DEVICES[:5]:
            starts = fitting_starts(device, [])
            for one in starts[::3]:
                for other in starts[::4]:
                    states = [(above, above - lift) for above, lift in (one, other)]
                    moves = parting_moves(device, states[0], device, states[1])
                    self.assertEqual(moves is None, are_alike(device, states[0], device, states[1]))
                    rises = [moved_bar(device, state, moves or [1, -2]).rises for state in states]
                    self.assertEqual(rises[0] == rises[1], moves is None)
                    fits = fitting_starts(device, list(zip(moves or [1, -2], rises[0])))
                    self.assertEqual((one in fits, other in fits), (True, moves is None))
            if len(starts) > 1 and telling_move(device, []) is not None:
                move = telling_move(device, [])
                least, greatest = range_of_rises(device, [], move)
                self.assertLess(least, greatest)

    def test_devices_that_are_alike(self):
        for device, state, moves in cases(10):
            plain, near = plain_device(device, state), alike_state(device, state)
            self.assertTrue(is_device(plain))
            bars = [moved_bar(device, state, moves), moved_bar(plain, (0, 0), moves), moved_bar(device, near, moves)]
            self.assertEqual(bars[0].rises, bars[1].rises)
            self.assertEqual(bars[0].rises, bars[2].rises)
            height, hand = moved_state(device, state, moves)
            self.assertEqual(plain_device(device, (height, hand)),
                             plain_device(plain, (height - state[0], hand - state[1])))

    def test_alike_devices_have_the_same_answers(self):
        for device, state, moves in cases(11, 5):
            plain, (height, hand) = plain_device(device, state), state
            rounds = moves + [-sum(moves)] if sum(moves) else moves + [5, -5]
            self.assertEqual(mean_rise(device, hand, rounds), mean_rise(plain, 0, rounds))
            far = far_state(device, state, moves, 10 ** 39)
            self.assertEqual(far_state(plain, (0, 0), moves, 10 ** 39), (far[0] - height, far[1] - hand))
            self.assertEqual(climbing_span(device, hand), climbing_span(plain, 0))
            times = first_time(plain, (0, 0), [30, -30], 77)
            self.assertEqual(first_time(device, state, [30, -30], height + 77), times)

    def test_best_moves_of_a_live_bar(self):
        for device in DEVICES:
            for reach in (4, 12, 24):
                state = held_at(device, 2)[0], 2
                height = best_height(device, state, reach, 7)
                moves = best_moves(device, state, reach, height)
                self.assertLessEqual(len(moves), 7)
                self.assertEqual(moved_bar(device, state, moves).height, height)
                self.assertIs(are_alike(device, state, plain_device(device, state), (0, 0)), True)

    def test_joined_bars(self):
        for device in DEVICES[:1] + DEVICES[3:5]:
            heights = held_heights(device, -3)
            for one in heights[::4]:
                for other in heights[::5]:
                    moves = joining_moves(device, -3, one, other)
                    if moves is not None:
                        bars = [moved_bar(device, (height, -3), moves) for height in (one, other)]
                        self.assertEqual(bars[0].height, bars[1].height)
                    times = joining_round(device, -3, one, other, [9, -9])
                    if times:
                        bars = [LiveBar(device, (height, -3)) for height in (one, other)]
                        for bar in bars:
                            bar.pump(9, times)
                        self.assertEqual(bars[0].height, bars[1].height)
                    heights_behind = [moved_state(device, (height, -3), [4, -6, GREAT])[0] for height in (one, other)]
                    self.assertEqual(parted_by(device, -3, one, other, [4, -6, GREAT]),
                                     heights_behind[1] - heights_behind[0])

    def test_plain_combs(self):
        for ground, grip in sample_devices():
            plain = plain_comb(ground), plain_comb(grip)
            self.assertEqual(catch_count(ground, -100, 100), catch_count(plain[0], -100, 100))
            self.assertEqual(widest_gap(grip), widest_gap(plain[1]))
            self.assertEqual(climbing_span((ground, grip), 3), climbing_span(plain, 3))


class TextsTest(unittest.TestCase):
    def test_texts_of_what_other_parts_tell(self):
        for device, state, moves in cases(12):
            self.assertEqual(parse_device(format_device(device)), device)
            self.assertEqual(parse_moves(format_moves(moves)), moves)
            near = alike_state(device, moved_state(device, state, moves))
            self.assertEqual(parse_state(device, format_state(near)), near)

    def test_a_console_and_the_functions(self):
        for device, _, moves in cases(13):
            console, bar = console_in(device), LiveBar(device, (device[0][1][0], 0))
            for move in moves:
                rise = moved_bar(device, (bar.height, bar.hand), [move]).rises[0]
                self.assertEqual(console.execute(f"rise {move}"), str(rise))
                self.assertEqual(console.execute(f"move {move}"), "ok")
                bar.move(move)
            self.assertEqual(console.execute("state"), format_state((bar.height, bar.hand)))
            self.assertEqual(console.execute("start"), format_state(start_of(device, (bar.height, bar.hand))))
            self.assertEqual(console.execute("span"), str(climbing_span(device, bar.hand)))
            for _ in moves:
                console.execute("undo")
            self.assertEqual(console.execute("state"), f"{device[0][1][0]} 0")

    def test_the_start_of_a_console_fits_its_rises(self):
        for device, _, moves in cases(14):
            console = console_in(device)
            first = console.execute("start")
            looks = []
            for move in moves:
                looks.append((move, int(console.execute(f"rise {move}"))))
                console.execute(f"move {move}")
            self.assertIn(first, [format_state(start) for start in fitting_starts(device, looks)])


if __name__ == "__main__":
    unittest.main()
