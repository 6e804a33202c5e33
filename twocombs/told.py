"""Where a bar can have begun whose rises were seen.

A look is a tuple (move, rise), a start a tuple (ground remainder, grip remainder). The bars that fit some looks are
tuples (start, height, lift): where a bar with this start is behind them, if it began at the remainders themselves.
"""

from twocombs.checks import check_step, is_whole_pair
from twocombs.combs import check_device
from twocombs.errors import Impossible, InvalidLooks
from twocombs.rounds import device_slacks, moved_bar

MOST_LOOKS = 12


def check_looks(looks):
    """Raise InvalidLooks unless the value is a list of looks."""
    if not isinstance(looks, list) or len(looks) > MOST_LOOKS:
        raise InvalidLooks(None)
    for index, look in enumerate(looks):
        if not is_whole_pair(look) or look[0] == 0:
            raise InvalidLooks(index)


def check_told(device, looks):
    """Raise the error of the first wrong one of these arguments."""
    check_device(device)
    check_looks(looks)


def all_bars(slacks):
    """Return the bars of all starts, ascending: a comb catches where its slack is 0, and one of them has to."""
    ground, grip = slacks
    return [((above, lift), above, lift) for above, sink in enumerate(ground) for lift, slack in enumerate(grip)
            if sink == 0 or slack == 0]


def seen_bars(slacks, bars, look):
    """Return those of the bars that rise as a look tells, as they are behind it."""
    move, rise = look
    seen = []
    for start, height, lift in bars:
        new_height, new_lift = moved_bar(slacks, height, lift, [move])
        if new_height - height == rise:
            seen.append((start, new_height, new_lift))
    return seen


def fitting_bars(slacks, looks):
    """Return the bars of the starts that fit the looks, as they are behind them."""
    bars = all_bars(slacks)
    for look in looks:
        bars = seen_bars(slacks, bars, look)
    return bars


def sure_bars(slacks, looks):
    """Return the bars that fit the looks; raise Impossible if none does."""
    bars = fitting_bars(slacks, looks)
    if len(bars) == 0:
        raise Impossible("no start fits the looks")
    return bars


def rises_behind(device, looks, move):
    """Return the list of the rises of one more move, from all starts that fit the looks."""
    check_told(device, looks)
    check_step(move, "move")
    slacks = device_slacks(device)
    return [moved_bar(slacks, height, lift, [move])[0] - height for _, height, lift in sure_bars(slacks, looks)]


def fitting_starts(device, looks):
    """Return the ascending list of all starts from which the looks are seen."""
    check_told(device, looks)
    return [bar[0] for bar in fitting_bars(device_slacks(device), looks)]


def clash_index(device, looks):
    """Return the index of the first look with which no start fits any more, None if some start fits all looks."""
    check_told(device, looks)
    slacks = device_slacks(device)
    bars = all_bars(slacks)
    for index, look in enumerate(looks):
        bars = seen_bars(slacks, bars, look)
        if len(bars) == 0:
            return index
    return None


def sure_rise(device, looks, move):
    """Return the rise of one more move, if it is the same from all starts that fit the looks, otherwise None."""
    least, greatest = range_of_rises(device, looks, move)
    if least == greatest:
        return least
    return None


def range_of_rises(device, looks, move):
    """Return the least and the greatest rise of one more move, from all starts that fit the looks."""
    rises = rises_behind(device, looks, move)
    return min(rises), max(rises)


def telling_size(slacks):
    """Return the least size of a move into one of these slacks that tells of which, None if all are equal."""
    if min(slacks) == max(slacks):
        return None
    return min(slacks) + 1


def telling_move(device, looks):
    """Return the shortest move, up ahead of down, of which the fitting starts have unlike rises; None if none has."""
    check_told(device, looks)
    ground, grip = device_slacks(device)
    bars = sure_bars((ground, grip), looks)
    down = telling_size([ground[bar[1] % len(ground)] for bar in bars])
    up = telling_size([grip[bar[2] % len(grip)] for bar in bars])
    if down is None or (up is not None and up <= down):
        return up
    return -down
