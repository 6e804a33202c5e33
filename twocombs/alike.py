"""Devices that all moves raise alike, and the moves that part those that are not.

Rises tell only where a comb catches as seen from the bar, and they tell all of it: devices are alike if and only if
both combs, shifted so that the bar begins at 0 over a hand at 0, catch at the same integers.
"""

from math import lcm

from twocombs.combs import check_device, plain_comb
from twocombs.moving import check_state
from twocombs.rounds import device_slacks


def check_begun(device, state):
    """Raise the error of the first wrong one of these arguments."""
    check_device(device)
    check_state(device, state)


def check_both(device, state, second, start):
    """Raise the error of the first wrong one of these arguments."""
    check_begun(device, state)
    check_begun(second, start)


def shifted_comb(comb, distance):
    """Return the plain comb that catches where the comb does, seen from a place at this distance."""
    pitch, teeth = comb
    return plain_comb((pitch, sorted([(tooth - distance) % pitch for tooth in teeth])))


def shifted_device(device, state):
    """Return the plain device of arguments that have been checked."""
    ground, grip = device
    height, hand = state
    return shifted_comb(ground, height), shifted_comb(grip, height - hand)


def are_alike(device, state, second, start):
    """Tell whether all moves have the same rises in both devices, one by one."""
    check_both(device, state, second, start)
    return shifted_device(device, state) == shifted_device(second, start)


def plain_device(device, state):
    """Return the device of plain combs that is alike to this one from the state (0, 0)."""
    check_begun(device, state)
    return shifted_device(device, state)


def alike_state(device, state):
    """Return the least state (height, hand) from 0 on of the same device that is alike to it."""
    check_begun(device, state)
    ground, grip = device
    height, hand = state
    pitch, _ = plain_comb(ground)
    width, _ = plain_comb(grip)
    low = height % pitch
    return low, (low - height + hand) % width


def parting_size(ones, others, place):
    """Return the least size of a move into the slacks at a place that parts them, None if they are equal there."""
    one = ones[place % len(ones)]
    other = others[place % len(others)]
    if one == other:
        return None
    return min(one, other) + 1


def single_partings(first, second):
    """Return lists of one move that part two devices with these slacks, in each direction the shortest one."""
    down = parting_size(first[0], second[0], 0)
    up = parting_size(first[1], second[1], 0)
    found = []
    if down is not None:
        found.append([-down])
    if up is not None:
        found.append([up])
    return found


def parting_pairs(ones, others, slack, sign):
    """Return lists of two moves, the first one with this sign, that part two combs with these slacks.

    The first move goes through the slack that the bar has in both devices, and then on to each place that counts.
    """
    found = []
    for place in range(1, lcm(len(ones), len(others)) + 1):
        size = parting_size(ones, others, place)
        if size is not None:
            found.append([sign * (slack + place), -sign * size])
    return found


def double_partings(first, second):
    """Return lists of two moves that part two devices with these slacks, if no single move does."""
    sink, slack = first[0][0], first[1][0]
    by_ground = parting_pairs(first[0], second[0], slack, 1)
    by_grip = parting_pairs(first[1], second[1], sink, -1)
    return by_ground + by_grip


def parting_rank(moves):
    """Return what the moves that part are chosen by: the sum without signs, then the moves themselves."""
    return sum([abs(move) for move in moves]), moves


def parting_moves(device, state, second, start):
    """Return the fewest moves behind which the rises of both differ for the first time, None if they are alike."""
    check_both(device, state, second, start)
    first_slacks = device_slacks(shifted_device(device, state))
    second_slacks = device_slacks(shifted_device(second, start))
    found = single_partings(first_slacks, second_slacks)
    if len(found) == 0:
        found = double_partings(first_slacks, second_slacks)
    if len(found) == 0:
        return None
    return min(found, key=parting_rank)
