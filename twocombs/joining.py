"""Two bars in one device over one hand: the moves that join them.

Each move leads both to as high places as before or to one place, never past each other, so the gap between them is
never below 0. A place of such bars is a tuple (height remainder, lift remainder, gap): both remainders of the lower
bar, and by how much the other one is higher. Bars with a gap of the common pitch or more have it for ever.
"""

from math import lcm

from twocombs.checks import check_whole, is_whole
from twocombs.combs import check_device
from twocombs.errors import InvalidDevice, InvalidHeight
from twocombs.means import check_round
from twocombs.moving import check_moves, is_held
from twocombs.rounds import device_slacks, moved_bar

MOST_JOINING_PITCH = 8


def check_small(device):
    """Raise InvalidDevice unless the value is a device without a great pitch."""
    check_device(device)
    for index, comb in enumerate(device):
        if comb[0] > MOST_JOINING_PITCH:
            raise InvalidDevice(index)


def check_height(device, hand, height, name):
    """Raise InvalidHeight unless the argument with this name is a height that is held at a hand."""
    if not is_whole(height) or not is_held(device, height, hand):
        raise InvalidHeight(f"{name} is not held at this hand")


def check_bars(device, hand, one, other):
    """Raise the error of the first wrong one of these arguments."""
    check_small(device)
    check_whole(hand, "hand")
    check_height(device, hand, one, "one")
    check_height(device, hand, other, "other")


def pair_place(slacks, hand, one, other):
    """Return the place of two bars at these heights."""
    ground, grip = slacks
    low = min(one, other)
    return low % len(ground), (low - hand) % len(grip), abs(other - one)


def moved_place(slacks, place, moves):
    """Return the place behind moves."""
    ground, grip = slacks
    height, lift, gap = place
    low, low_lift = moved_bar(slacks, height, lift, moves)
    high, _ = moved_bar(slacks, height + gap, lift + gap, moves)
    return low % len(ground), low_lift % len(grip), high - low


def single_moves(slacks):
    """Return a list of moves that lead two bars to every place that one move of any size leads to."""
    ground, grip = slacks
    # Behind the longest slack a longer move changes but the remainder of one bar's height, or of its lift.
    up = [[size] for size in range(1, max(grip) + len(ground) + 1)]
    down = [[-size] for size in range(1, max(ground) + len(grip) + 1)]
    return up + down


def joining_trail(slacks, first):
    """Return as few moves as lead two bars from a place to one height, None if none do."""
    ground, grip = slacks
    pitch = lcm(len(ground), len(grip))
    singles = single_moves(slacks)
    before = {first: None}
    waiting = [first]
    while waiting:
        later = []
        for place in waiting:
            if place[2] == 0:
                return trail_back(before, place)
            for moves in singles:
                reached = moved_place(slacks, place, moves)
                if reached[2] < pitch and reached not in before:
                    before[reached] = (place, moves[0])
                    later.append(reached)
        waiting = later
    return None


def trail_back(before, place):
    """Return the moves that have led to a place, where `before` has for each place the one ahead and the move."""
    moves = []
    step = before[place]
    while step is not None:
        place, move = step
        moves.append(move)
        step = before[place]
    return moves[::-1]


def joining_round(device, hand, one, other, moves):
    """Return the least number of times behind which a round has brought both to one height, None if it never does."""
    check_bars(device, hand, one, other)
    check_moves(moves)
    check_round(moves)
    slacks = device_slacks(device)
    place = pair_place(slacks, hand, one, other)
    seen = {}
    while place not in seen:
        if place[2] == 0:
            return len(seen)
        seen[place] = True
        place = moved_place(slacks, place, moves)
    return None


def joining_count(device, hand, one, other):
    """Return the fewest moves that bring both bars to one height, None if no moves do."""
    moves = joining_moves(device, hand, one, other)
    if moves is None:
        return None
    return len(moves)


def joining_moves(device, hand, one, other):
    """Return as few moves as bring both bars to one height, None if none do."""
    check_bars(device, hand, one, other)
    slacks = device_slacks(device)
    first = pair_place(slacks, hand, one, other)
    if first[2] >= lcm(device[0][0], device[1][0]):
        return None
    return joining_trail(slacks, first)


def parted_by(device, hand, one, other, moves):
    """Return by how much the second bar is higher than the first one behind moves."""
    check_bars(device, hand, one, other)
    check_moves(moves)
    slacks = device_slacks(device)
    reached, _ = moved_bar(slacks, one, one - hand, moves)
    beside, _ = moved_bar(slacks, other, other - hand, moves)
    return beside - reached
