"""What several tests share: sample values, slow answers by definition, and how an error is asked for."""

from math import lcm

from twocombs.errors import CombError

GREAT = 10 ** 40 - 1  # the greatest integer of 40 digits
WIDE = ((10, [0, 3]), (10, [0]))
NARROW = ((3, [0]), (5, [0]))
FULL = (24, list(range(24)))
FULL_23 = (23, list(range(23)))


class Odd:
    """A value of no kind that the program knows, which cannot be compared, measured or shown."""

    def __eq__(self, other):
        raise RuntimeError("compared")

    __hash__ = None

    def __bool__(self):
        raise RuntimeError("tested")

    def __len__(self):
        raise RuntimeError("measured")

    def __repr__(self):
        raise RuntimeError("shown")


def endless_list():
    """Return a list that contains itself."""
    endless = []
    endless.append(endless)
    return endless


# Values that are no integer, as any argument may be.
NO_NUMBERS = [None, True, False, 1.0, 0.0, "1", "", b"1", [], [1], (), (1,), {}, {1: 1}, {1}, Odd(), int, 1j]

# Values that are neither a pair nor a list.
ODD_VALUES = [None, True, False, 0, 1, 24, -1, GREAT, 1.5, "", "ab", b"ab", {}, {0: 1, 1: 2}, {1, 2}, range(2),
              Odd(), Odd, len, endless_list()]

# Each value that is no comb, with the index that InvalidComb has for it.
NO_COMBS = [(value, None) for value in ODD_VALUES] + [
    ([], None), ((), None), ((10,), None), (([0],), None), ((10, [0], [0]), None), ([10, [0]], None),
    ((10, [0], None), None),
    ((0, [0]), 0), ((25, [0]), 0), ((-1, [0]), 0), ((-10, [0]), 0), ((GREAT, [0]), 0), ((True, [0]), 0),
    ((False, [0]), 0), ((10.0, [0]), 0), (("10", [0]), 0), ((None, [0]), 0), (([10], [0]), 0), ((Odd(), [0]), 0),
    ((0, []), 0), ((True, None), 0), ((25, [25]), 0), (([0], 10), 0), ((None, None), 0),
    ((10, []), 1), ((10, [10]), 1), ((10, [-1]), 1), ((10, [-1, 3]), 1), ((10, [0, 10]), 1), ((10, [3, 0]), 1),
    ((10, [0, 0]), 1), ((10, [0, 3, 3]), 1), ((10, [0, 5, 4, 9]), 1), ((10, [9, -1]), 1), ((1, [1]), 1),
    ((24, [24]), 1), ((10, [0, GREAT]), 1), ((10, [-GREAT, 0]), 1), ((10, [False]), 1), ((10, [True]), 1),
    ((10, [0, True]), 1), ((10, [0.0]), 1), ((10, [0, 3.0]), 1), ((10, [None]), 1), ((10, ["0"]), 1),
    ((10, [0, None]), 1), ((10, [[0]]), 1), ((10, [Odd()]), 1), ((10, (0,)), 1), ((10, (0, 3)), 1), ((10, 0), 1),
    ((10, None), 1), ((10, "03"), 1), ((10, b"\x00\x03"), 1), ((10, {0}), 1), ((10, {0: 3}), 1), ((10, range(2)), 1),
    ((10, Odd()), 1), ((10, endless_list()), 1), ((10, [10, 3]), 1), ((10, [0] * 200), 1), ((24, list(range(25))), 1),
]

# Each value that is no device, with the index that InvalidDevice has for it.
NO_DEVICES = [(value, None) for value in ODD_VALUES] + [
    ([], None), ((), None), (((1, [0]),), None), ([(1, [0]), (1, [0])], None), (((1, [0]),) * 3, None),
    ((1, [0]), 0), ((None, None), 0), (((25, [0]), (25, [0])), 0), (([1, [0]], (1, [0])), 0),
    (((1, (0,)), (1, [0])), 0), ((Odd(), (1, [0])), 0),
    (((1, [0]), None), 1), (((1, [0]), (25, [0])), 1), (((1, [0]), [1, [0]]), 1), (((1, [0]), (10, [3, 0])), 1),
    (((1, [0]), (1, (0,))), 1), (((1, [0]), (True, [0])), 1), (((1, [0]), Odd()), 1),
]

# Values that are no tuple of two integers.
NO_WHOLE_PAIRS = ODD_VALUES + [
    [], (), (0,), (0, 0, 0), [0, 0], (True, 0), (0, True), (False, 0), (0, False), (0.0, 0), (0, 0.0), ("0", 0),
    (0, "0"), (None, None), (0, None), ((0, 0), 0), (0, (0,)), (0, Odd()), (Odd(), 0), (0, endless_list()),
]

# Each value that is no moves, with the index that InvalidMoves has for it.
NO_MOVES = [(value, None) for value in ODD_VALUES if not isinstance(value, list)] + [
    ((), None), ((1,), None), ((1, -1), None), ([1] * 41, None), ([0] * 41, None), ([None] * 200, None),
    ([0], 0), ([1, 0], 1), ([0, 0], 0), ([1, -1, 0, 0], 2), ([True], 0), ([1, False], 1), ([1, True, 0], 1),
    ([1.0], 0), ([1, "1"], 1), ([None], 0), ([[1]], 0), ([1, (1,)], 1), ([Odd()], 0), ([1] * 39 + [0], 39),
    (endless_list(), 0),
]

# Each value that is no looks, with the index that InvalidLooks has for it.
NO_LOOKS = [(value, None) for value in ODD_VALUES if not isinstance(value, list)] + [
    ((), None), (((1, 1),), None), ([(1, 1)] * 13, None), ([None] * 13, None), ([(1, 0)] * 200, None), ([0], 0),
    ([(0, 0)], 0), ([(0, 1)], 0), ([(1, 1), (0, 0)], 1), ([[1, 1]], 0), ([(1, 1), [1, 1]], 1), ([()], 0), ([(1,)], 0),
    ([(1, 1, 1)], 0), ([1, 1], 0), ([(1, 1), 1], 1), ([(True, 1)], 0), ([(1, True)], 0), ([(1, False)], 0),
    ([(1.0, 1)], 0), ([(1, 1.0)], 0), ([(1, None)], 0), ([(None, 1)], 0), ([("1", 1)], 0), ([(1, "1")], 0),
    ([((1,), 1)], 0), ([(1, [1])], 0), ([None], 0), (["ab"], 0), ([{1: 1, 2: 2}], 0), ([Odd()], 0), ([(Odd(), 1)], 0),
    ([(1, Odd())], 0), ([(1, 1)] * 11 + [(0, 1)], 11), ([(1, 1)] * 11 + [None], 11), ([None] + [(1, 1)] * 11, 0),
    ([(1, 5), (0, 1), None], 1), (endless_list(), 0),
]


def all_combs(pitch):
    """Return every comb with this pitch."""
    combs = []
    for marks in range(1, 2 ** pitch):
        combs.append((pitch, [tooth for tooth in range(pitch) if marks >> tooth & 1]))
    return combs


def sample_combs():
    """Return all combs of small pitches, and some of great ones with one tooth, some teeth and all."""
    combs = []
    for pitch in (1, 2, 3, 4):
        combs.extend(all_combs(pitch))
    combs.extend([(5, [2, 3]), (7, [0, 1, 5]), (10, [0, 3]), (10, [9]), (12, [1, 3, 5, 7, 9, 11])])
    combs.extend([(20, [2, 5, 12, 15])])
    combs.extend([(23, [0]), (23, [22]), (23, [1, 8, 9]), (24, [0]), (24, [23]), (24, [5, 6, 17, 18]), FULL])
    return combs


def sample_devices():
    """Return devices of small combs, and of great ones."""
    small = [(1, [0]), (2, [1]), (3, [0]), (3, [0, 2]), (5, [0]), (5, [1, 4])]
    great = [(10, [0, 3]), (10, [0]), (23, [4, 21]), (24, [0]), FULL]
    devices = [(ground, grip) for ground in small for grip in small]
    devices.extend([(ground, grip) for ground in great for grip in great])
    devices.extend([((1, [0]), (24, [11])), ((24, [11]), (1, [0])), ((24, [3, 4]), (7, [6]))])
    return devices


def catches_at(comb, number):
    """Tell by definition whether a comb catches at a number."""
    return number % comb[0] in comb[1]


def held_states(device, hand):
    """Return the states of a common stretch of heights, with this hand."""
    ground, grip = device
    return [(height, hand) for height in range(-3, 25)
            if catches_at(ground, height) or catches_at(grip, height - hand)]


def common(device):
    """Return the common pitch of a device."""
    return lcm(device[0][0], device[1][0])


def held_at(device, hand):
    """Return the heights within a common pitch that are held at a hand."""
    return [height for height in range(common(device))
            if catches_at(device[0], height) or catches_at(device[1], height - hand)]


def smaller_devices():
    """Return the samples and some more, those with hundreds of held heights left out."""
    devices = [device for device in sample_devices() if len(held_at(device, 0)) <= 100]
    return devices + [((4, [0, 1]), (6, [2, 5])), ((8, [0, 3]), (7, [6])), ((9, [4]), (6, [0, 1, 2]))]


def stepped(device, state, move):
    """Return the state behind a move by steps of 1: a comb that catches has the bar, or the bar sinks to it."""
    ground, grip = device
    height, hand = state
    for _ in range(abs(move)):
        if move > 0:
            height += 1 if catches_at(grip, height - hand) else 0
            hand += 1
        else:
            height -= 0 if catches_at(ground, height) else 1
            hand -= 1
    return height, hand


def leaped(device, state, move):
    """Return the state behind a move: steps of 1 while there can be slack, and then the rest at once."""
    if abs(move) <= 24:
        return stepped(device, state, move)
    rest = abs(move) - 24
    if move > 0:
        height, hand = stepped(device, state, 24)
        return height + rest, hand + rest
    height, hand = stepped(device, state, -24)
    return height, hand - rest


def once(device, state, moves):
    """Return the state behind moves that are done once, move by move."""
    for move in moves:
        state = leaped(device, state, move)
    return state


def repeated(device, state, moves, times):
    """Return the states behind 0, 1, 2 times and so on, up to so many, one time behind the other."""
    states = [state]
    for _ in range(times):
        states.append(once(device, states[-1], moves))
    return states


def start_table(device, moves):
    """Return for each start of a device, as (ground remainder, grip remainder), where moves lead it and their rise."""
    (pitch, teeth), (width, marks) = device
    table = {}
    for above in range(pitch):
        for lift in range(width):
            if above in teeth or lift in marks:
                height, hand = once(device, (above, above - lift), moves)
                table[above, lift] = ((height % pitch, (height - hand) % width), height - above)
    return table


def power_rise(table, start, times):
    """Return the rise of so many times from a start: the table is doubled again and again."""
    rise = 0
    while times:
        if times % 2:
            start, more = table[start]
            rise += more
        table = {one: (table[two][0], more + table[two][1]) for one, (two, more) in table.items()}
        times //= 2
    return rise


def start_of(device, state):
    """Return the start of a state."""
    return state[0] % device[0][0], (state[0] - state[1]) % device[1][0]


def raised(call, *arguments, **named):
    """Return the error of the package that a call raises, None if it raises none."""
    try:
        call(*arguments, **named)
    except CombError as error:
        return error
    return None
