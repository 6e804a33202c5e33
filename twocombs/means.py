"""The mean rise of a round that is done for ever, and the heights at which it stays.

A round is moves, at least one, that come to 0 together.
"""

from math import gcd

from twocombs.checks import check_whole
from twocombs.combs import check_device, common_pitch
from twocombs.errors import Impossible
from twocombs.moving import check_moves, is_held
from twocombs.rounds import cycle_rise, device_slacks, moved_bar, repeated_heights


def check_hand(device, hand):
    """Raise the error of the first wrong one of these arguments."""
    check_device(device)
    check_whole(hand, "hand")


def check_round(moves):
    """Raise Impossible unless moves that have been checked are a round."""
    if len(moves) == 0 or sum(moves) != 0:
        raise Impossible("the moves are no round")


def check_rounds(device, hand, moves):
    """Raise the error of the first wrong one of these arguments, then Impossible unless the moves are a round."""
    check_hand(device, hand)
    check_moves(moves)
    check_round(moves)


def mean_rise(device, hand, moves):
    """Return the mean rise of a round at a hand as a tuple (top, bottom) without a common divisor."""
    check_rounds(device, hand, moves)
    return slack_mean(device_slacks(device), hand, moves)


def slack_mean(slacks, hand, moves):
    """Return the mean rise of a round that has been checked, in the device with these slacks."""
    ground, _ = slacks
    # All heights that are held at a hand have one mean rise, and where the ground catches they are held at each hand.
    heights, ahead = repeated_heights(slacks, (ground.index(0), hand), moves)
    length, rise = cycle_rise(heights, ahead)
    part = gcd(rise, length)
    return rise // part, length // part


def held_heights(device, hand):
    """Return the ascending list of the heights from 0 to the common pitch less 1 that are held at a hand."""
    check_hand(device, hand)
    return heights_at(device, hand)


def heights_at(device, hand):
    """Return the held heights of arguments that have been checked."""
    return [height for height in range(common_pitch(device)) if is_held(device, height, hand)]


def heights_behind(device, hand, moves):
    """Return a dict from each held height to the height behind one round."""
    slacks = device_slacks(device)
    return {height: moved_bar(slacks, height, height - hand, moves)[0] for height in heights_at(device, hand)}


def stuck_heights(device, hand, moves):
    """Return the ascending list of the held heights from which a round leads back to the same height."""
    check_rounds(device, hand, moves)
    behind = heights_behind(device, hand, moves)
    return [height for height in behind if behind[height] == height]


def lasting_heights(device, hand, moves):
    """Return the ascending list of the held heights to whose remainders the bar comes back again and again."""
    check_rounds(device, hand, moves)
    _, lasting = settled(device, hand, moves)
    return lasting


def settling_rounds(device, hand, moves):
    """Return the least number of rounds behind which the bar is at a lasting remainder, wherever it began."""
    check_rounds(device, hand, moves)
    rounds, _ = settled(device, hand, moves)
    return rounds


def settled(device, hand, moves):
    """Return how many rounds it takes until only lasting remainders are left, and the list of these."""
    pitch = common_pitch(device)
    behind = heights_behind(device, hand, moves)
    rounds = 0
    present = list(behind)
    later = sorted({behind[height] % pitch for height in present})
    # A round that loses no remainder leads these to themselves, so that each of them comes again for ever.
    while len(later) < len(present):
        rounds = rounds + 1
        present = later
        later = sorted({behind[height] % pitch for height in present})
    return rounds, present
