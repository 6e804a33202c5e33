"""Moves that are done several times, one time behind the other; they need not come to 0.

The slacks of a device are a tuple of two lists, one for the ground and one for the grip: for each remainder by the
pitch, how far the catch below is away.
The functions of the first half are for arguments that have been checked already.
"""

from twocombs.checks import check_least, check_whole
from twocombs.combs import floor_catch
from twocombs.moving import check_moving


def comb_slacks(comb):
    """Return for each remainder by the pitch how far the catch below is away."""
    pitch, _ = comb
    return [rest - floor_catch(comb, rest) for rest in range(pitch)]


def device_slacks(device):
    """Return the slacks of a device."""
    ground, grip = device
    return comb_slacks(ground), comb_slacks(grip)


# Up to 576 times of 40 moves come ahead of an answer, so a catch is looked up here, not searched for at each move.
def moved_bar(slacks, height, lift, moves):
    """Return the height and the lift behind the moves."""
    ground, grip = slacks
    for move in moves:
        if move > 0:
            slack = min(move, grip[lift % len(grip)])
            height = height + move - slack
            lift = lift - slack
        else:
            slack = min(-move, ground[height % len(ground)])
            height = height - slack
            lift = lift - move - slack
    return height, lift


def repeated_heights(slacks, state, moves):
    """Return the heights behind 0, 1, 2 and more times, and the number of times ahead of the cycle.

    The last height is the first one whose remainders have come before: with it the cycle begins anew.
    """
    ground, grip = slacks
    height, hand = state
    lift = height - hand
    heights = []
    seen = {}
    # All rises to come depend on these two remainders alone.
    place = (height % len(ground), lift % len(grip))
    while place not in seen:
        seen[place] = len(heights)
        heights.append(height)
        height, lift = moved_bar(slacks, height, lift, moves)
        place = (height % len(ground), lift % len(grip))
    heights.append(height)
    return heights, seen[place]


def cycle_rise(heights, ahead):
    """Return the length of the cycle in repeated heights, and by how much it raises the bar."""
    return len(heights) - 1 - ahead, heights[-1] - heights[ahead]


def far_height(heights, ahead, times):
    """Return the height behind so many times, where the repeated heights are known."""
    if times < ahead:
        return heights[times]
    length, rise = cycle_rise(heights, ahead)
    cycles, rest = divmod(times - ahead, length)
    return heights[ahead + rest] + cycles * rise


def needed_cycles(reached, height, rise):
    """Return the least number of cycles that lead from the reached height to this one or above it."""
    return -((reached - height) // rise)


def far_state(device, state, moves, times):
    """Return the state behind so many times of the moves."""
    check_moving(device, state, moves)
    check_least(times, 0, "times")
    _, hand = state
    heights, ahead = repeated_heights(device_slacks(device), state, moves)
    return far_height(heights, ahead, times), hand + times * sum(moves)


def first_time(device, state, moves, height):
    """Return the least number of times behind which the bar is at this height or above it, None if it never is."""
    check_moving(device, state, moves)
    check_whole(height, "height")
    heights, ahead = repeated_heights(device_slacks(device), state, moves)
    for times, reached in enumerate(heights):
        if reached >= height:
            return times
    length, rise = cycle_rise(heights, ahead)
    if rise == 0:
        return None
    # The bar may sink from one time to the next, so any place in the cycle can be the first one that is high enough.
    return min([ahead + at + length * needed_cycles(reached, height, rise)
                for at, reached in enumerate(heights[ahead:-1])])


def round_cycle(device, state, moves):
    """Return (ahead, length, rise): from `ahead` times on, each `length` times raise the bar by `rise`."""
    check_moving(device, state, moves)
    heights, ahead = repeated_heights(device_slacks(device), state, moves)
    length, rise = cycle_rise(heights, ahead)
    return ahead, length, rise
