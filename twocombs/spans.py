"""Pumping: rounds [span, -span], and how fast each span climbs.

A longer span never has a smaller mean rise: spans below the longest slack of the grip have a mean rise of 0, and from
this slack on a longer span leads from no height to a lower one than a shorter span does.
"""

from twocombs.checks import check_least, check_whole
from twocombs.combs import common_pitch
from twocombs.means import check_hand, slack_mean
from twocombs.rounds import device_slacks


def span_rise(device, hand, span):
    """Return the mean rise of pumping with a span at a hand as a tuple (top, bottom)."""
    check_hand(device, hand)
    check_least(span, 1, "span")
    return pump_mean(device_slacks(device), hand, span)


def pump_mean(slacks, hand, span):
    """Return the mean rise of a pump in the device with these slacks."""
    return slack_mean(slacks, hand, [span, -span])


def climbing_span(device, hand):
    """Return the least span with a mean rise above 0."""
    check_hand(device, hand)
    # A cycle that climbs does so by the common pitch at least, and has no more rounds than that: 1 or more a round.
    return least_span(device_slacks(device), hand, 1, 1)


def span_rows(device, hand):
    """Return for each mean rise above 0 a tuple (span, top, bottom) with the least span that has it, ascending."""
    check_hand(device, hand)
    ground, grip = device
    slacks = device_slacks(device)
    rows = []
    last = (0, 1)
    for span in range(1, common_pitch(device) + max(ground[0], grip[0]) + 1):
        mean = pump_mean(slacks, hand, span)
        if mean != last:
            top, bottom = mean
            rows.append((span, top, bottom))
            last = mean
    return rows


def span_for(device, hand, top, bottom):
    """Return the least span whose mean rise is at least the fraction top / bottom."""
    check_hand(device, hand)
    check_whole(top, "top")
    check_least(bottom, 1, "bottom")
    return least_span(device_slacks(device), hand, top, bottom)


def least_span(slacks, hand, top, bottom):
    """Return the least span whose mean rise is at least a fraction, for arguments that have been checked."""
    ground, grip = slacks
    # No pump raises by more than its span, or by less than its span without the longest slack of either comb.
    low = max(1, -(-top // bottom))
    high = low + max(ground) + max(grip)
    while low < high:
        middle = (low + high) // 2
        rise, rounds = pump_mean(slacks, hand, middle)
        if rise * bottom >= top * rounds:
            high = middle
        else:
            low = middle + 1
    return low
