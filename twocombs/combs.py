"""Combs and devices, and where a comb catches.

A comb is a tuple (pitch, teeth), a device a tuple (ground, grip) of two combs.
The functions of the first half are for arguments that have been checked already.
"""

from math import lcm

from twocombs.checks import check_whole, is_pair, is_whole
from twocombs.errors import InvalidComb, InvalidDevice, InvalidNumber

MOST_PITCH = 24


def catches(comb, number):
    """Tell whether the comb catches at the number."""
    pitch, teeth = comb
    return number % pitch in teeth


def floor_catch(comb, number):
    """Return the greatest catch that is not greater than the number."""
    pitch, teeth = comb
    rest = number % pitch
    start = number - rest
    lower = [tooth for tooth in teeth if tooth <= rest]
    if lower:
        return start + lower[-1]
    return start - pitch + teeth[-1]


def roof_catch(comb, number):
    """Return the least catch that is not less than the number."""
    pitch, teeth = comb
    rest = number % pitch
    start = number - rest
    upper = [tooth for tooth in teeth if tooth >= rest]
    if upper:
        return start + upper[0]
    return start + pitch + teeth[0]


def count_below(comb, number):
    """Return how many catches there are from 0 to the number less 1; below 0 they count as negative."""
    pitch, teeth = comb
    rest = number % pitch
    lower = [tooth for tooth in teeth if tooth < rest]
    return number // pitch * len(teeth) + len(lower)


def copied_comb(comb):
    """Return an equal comb with a list of its own."""
    pitch, teeth = comb
    return pitch, list(teeth)


def common_pitch(device):
    """Return the least common multiple of both pitches."""
    ground, grip = device
    return lcm(ground[0], grip[0])


def is_pitch(value):
    """Tell whether any value is the pitch of a comb."""
    return is_whole(value) and 1 <= value <= MOST_PITCH


def are_teeth(value, pitch):
    """Tell whether any value is the list of teeth of a comb with this pitch."""
    if not isinstance(value, list) or len(value) == 0:
        return False
    if not all([is_whole(tooth) for tooth in value]):
        return False
    if value[0] < 0 or value[-1] >= pitch:
        return False
    return all([low < high for low, high in zip(value, value[1:])])


def check_comb(comb):
    """Raise InvalidComb unless the value is a comb."""
    if not is_pair(comb):
        raise InvalidComb(None)
    pitch, teeth = comb
    if not is_pitch(pitch):
        raise InvalidComb(0)
    if not are_teeth(teeth, pitch):
        raise InvalidComb(1)


def check_device(device):
    """Raise InvalidDevice unless the value is a device."""
    if not is_pair(device):
        raise InvalidDevice(None)
    for index, comb in enumerate(device):
        if not is_comb(comb):
            raise InvalidDevice(index)


def is_comb(value):
    """Tell whether any value is a comb."""
    return is_pair(value) and is_pitch(value[0]) and are_teeth(value[1], value[0])


def is_device(value):
    """Tell whether any value is a device."""
    return is_pair(value) and is_comb(value[0]) and is_comb(value[1])


def catch_below(comb, number):
    """Return the greatest integer at which the comb catches and that is not greater than the number."""
    check_comb(comb)
    check_whole(number, "number")
    return floor_catch(comb, number)


def catch_above(comb, number):
    """Return the least integer at which the comb catches and that is not less than the number."""
    check_comb(comb)
    check_whole(number, "number")
    return roof_catch(comb, number)


def catch_count(comb, least, greatest):
    """Return at how many integers from least to greatest the comb catches."""
    check_comb(comb)
    check_whole(least, "least")
    check_whole(greatest, "greatest")
    if greatest < least:
        raise InvalidNumber("greatest is below least")
    return count_below(comb, greatest + 1) - count_below(comb, least)


def nth_catch(comb, index):
    """Return the catch with this index; the least one from 0 on has the index 0."""
    check_comb(comb)
    check_whole(index, "index")
    pitch, teeth = comb
    many = len(teeth)
    return index // many * pitch + teeth[index % many]


def plain_comb(comb):
    """Return the comb with the least pitch that catches at the same integers."""
    check_comb(comb)
    pitch, teeth = comb
    # All pitches of the same catches are multiples of the least one, so only divisors can serve.
    for part in range(1, pitch):
        if pitch % part == 0 and repeated_teeth(teeth, part, pitch) == teeth:
            return part, teeth_under(teeth, part)
    return copied_comb(comb)


def teeth_under(teeth, part):
    """Return a new list of the teeth that are less than the part."""
    return [tooth for tooth in teeth if tooth < part]


def repeated_teeth(teeth, part, pitch):
    """Return the teeth within the first part of a pitch, repeated in each of its parts."""
    first = teeth_under(teeth, part)
    return [start + tooth for start in range(0, pitch, part) for tooth in first]


def widest_gap(comb):
    """Return the greatest distance from one catch to the next one."""
    check_comb(comb)
    pitch, teeth = comb
    following = teeth[1:] + [teeth[0] + pitch]
    return max([high - low for low, high in zip(teeth, following)])
