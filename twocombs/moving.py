"""States of a device, and the moves of its hand.

A state is a tuple (height, hand); height - hand is the lift.
The functions of the first half are for arguments that have been checked already.
"""

from twocombs.checks import is_whole, is_whole_pair
from twocombs.combs import catches, check_device, copied_comb, floor_catch
from twocombs.errors import InvalidMoves, InvalidState

MOST_MOVES = 40


def is_held(device, height, hand):
    """Tell whether one of the combs catches the bar at this height."""
    ground, grip = device
    return catches(ground, height) or catches(grip, height - hand)


def after_move(device, state, move):
    """Return the state behind one move."""
    ground, grip = device
    height, hand = state
    if move > 0:
        lift = height - hand
        new_lift = max(lift - move, floor_catch(grip, lift))
        return hand + move + new_lift, hand + move
    return max(height + move, floor_catch(ground, height)), hand + move


def fits_device(device, value):
    """Tell whether any value is a state of a device that has been checked."""
    return is_whole_pair(value) and is_held(device, value[0], value[1])


def check_state(device, state):
    """Raise InvalidState unless the value is a state of a device that has been checked."""
    if not fits_device(device, state):
        raise InvalidState("this is no state of the device")


def check_moves(moves):
    """Raise InvalidMoves unless the value is a list of moves."""
    if not isinstance(moves, list) or len(moves) > MOST_MOVES:
        raise InvalidMoves(None)
    for index, move in enumerate(moves):
        if not is_whole(move) or move == 0:
            raise InvalidMoves(index)


def check_moving(device, state, moves):
    """Raise the error of the first wrong one of these arguments."""
    check_device(device)
    check_state(device, state)
    check_moves(moves)


def is_state(device, value):
    """Tell whether any value is a state of the device."""
    check_device(device)
    return fits_device(device, value)


def moved_state(device, state, moves):
    """Return the state behind the moves."""
    check_moving(device, state, moves)
    height, hand = state
    for move in moves:
        height, hand = after_move(device, (height, hand), move)
    return height, hand


def state_trail(device, state, moves):
    """Return the list of the states behind each of the moves."""
    check_moving(device, state, moves)
    trail = []
    present = state
    for move in moves:
        present = after_move(device, present, move)
        trail.append(present)
    return trail


def joined_moves(moves):
    """Return the shortest moves that lead to the same state in every device from every state."""
    check_moves(moves)
    joined = []
    for move in moves:
        if joined and (joined[-1] > 0) == (move > 0):
            joined[-1] = joined[-1] + move
        else:
            joined.append(move)
    return joined


def mirror_device(device):
    """Return the device with its combs exchanged."""
    check_device(device)
    ground, grip = device
    return copied_comb(grip), copied_comb(ground)


def mirror_state(state):
    """Return the state of the mirrored device that is behind moves what this one is behind the opposite moves."""
    if not is_whole_pair(state):
        raise InvalidState("a state is a tuple of two integers")
    height, hand = state
    return height - hand, -hand
