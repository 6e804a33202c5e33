"""The greatest heights that few moves lead to, and the fewest moves that lead to a height.

The hand stays from 0 to the reach behind each move. A bar that is higher at one hand is never lower behind the same
moves, so for each hand only one height counts: going forwards the greatest one that can be had there, going backwards
the least one from which the goal can still be had.
"""

from twocombs.checks import check_between, check_whole
from twocombs.combs import check_device, roof_catch
from twocombs.errors import InvalidState
from twocombs.moving import check_state
from twocombs.rounds import device_slacks

MOST_REACH = 24
MOST_COUNT = 200


def check_reach(device, state, reach):
    """Raise the error of the first wrong one of these arguments."""
    check_device(device)
    check_state(device, state)
    check_between(reach, 1, MOST_REACH, "reach")


def check_within(state, reach):
    """Raise InvalidState unless the hand of a state is within a reach."""
    _, hand = state
    if hand < 0 or hand > reach:
        raise InvalidState("the hand is not within the reach")


def check_goal(device, state, reach, height):
    """Raise the error of the first wrong one of these arguments, then of a hand that is not within the reach."""
    check_reach(device, state, reach)
    check_whole(height, "height")
    check_within(state, reach)


def heights_from(slacks, height, hand, reach):
    """Return the list of the heights behind a move to each hand; at the present hand it is the present height."""
    ground, grip = slacks
    sink = ground[height % len(ground)]
    slack = grip[(height - hand) % len(grip)]
    lower = [height - min(hand - goal, sink) for goal in range(hand)]
    upper = [height + max(goal - hand - slack, 0) for goal in range(hand, reach + 1)]
    return lower + upper


def heights_behind_more(slacks, heights):
    """Return the greatest heights at each hand behind one more move than the given ones, or behind no more."""
    best = list(heights)
    for hand, height in enumerate(heights):
        if height is not None:
            for goal, reached in enumerate(heights_from(slacks, height, hand, len(heights) - 1)):
                if best[goal] is None or best[goal] < reached:
                    best[goal] = reached
    return best


def best_heights(device, state, reach, count):
    """Return for each hand the greatest height behind at most so many moves, None if the hand cannot be there."""
    check_reach(device, state, reach)
    check_between(count, 0, MOST_COUNT, "count")
    check_within(state, reach)
    height, hand = state
    slacks = device_slacks(device)
    heights = [None] * (reach + 1)
    heights[hand] = height
    for _ in range(count):
        heights = heights_behind_more(slacks, heights)
    return heights


def best_height(device, state, reach, count):
    """Return the greatest height behind at most so many moves, at whichever hand."""
    return max([height for height in best_heights(device, state, reach, count) if height is not None])


def heights_ahead(device, needed):
    """Return the least heights at each hand from which one move, or none, leads to a needed height or above it."""
    ground, grip = device
    # From these catches on a comb keeps the bar as high as it is needed, however far the hand comes down or up.
    stands = [roof_catch(ground, height) for height in needed]
    lifts = [roof_catch(grip, height - goal) for goal, height in enumerate(needed)]
    least = []
    for hand, own in enumerate(needed):
        down = [min(needed[goal] + hand - goal, stands[goal]) for goal in range(hand)]
        up = [min(needed[goal], hand + lifts[goal]) for goal in range(hand + 1, len(needed))]
        least.append(min([own] + down + up))
    return least


def needed_rows(device, state, reach, height):
    """Return for 0, 1, 2 and more moves the least heights at each hand from which so many at most lead to a height.

    The last row is the first one that the state has come up to; None if it comes up to none.
    """
    present, hand = state
    rows = [[height] * (reach + 1)]
    while rows[-1][hand] > present:
        row = heights_ahead(device, rows[-1])
        if row == rows[-1]:
            return None
        rows.append(row)
    return rows


def fewest_moves(device, state, reach, height):
    """Return the least number of moves behind which the bar can be at a height or above it, None if it never can."""
    check_goal(device, state, reach, height)
    rows = needed_rows(device, state, reach, height)
    if rows is None:
        return None
    return len(rows) - 1


def best_moves(device, state, reach, height):
    """Return the fewest moves to a height or above it, and of these the least as lists; None if there are none."""
    check_goal(device, state, reach, height)
    rows = needed_rows(device, state, reach, height)
    if rows is None:
        return None
    slacks = device_slacks(device)
    present, hand = state
    moves = []
    for needed in reversed(rows[:-1]):
        reached = heights_from(slacks, present, hand, reach)
        # The least move is the one to the least hand. It is never the present hand: fewer moves would do then.
        goal = min([place for place, least in enumerate(needed) if reached[place] >= least])
        moves.append(goal - hand)
        present, hand = reached[goal], goal
    return moves
