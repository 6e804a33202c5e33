"""A bar that moves call by call, and whose calls can be taken back."""

from twocombs.checks import check_least, check_step
from twocombs.combs import check_comb, check_device, copied_comb
from twocombs.errors import Impossible, NothingToUndo
from twocombs.moving import after_move, check_state, is_held
from twocombs.rounds import device_slacks, far_height, repeated_heights


def copied_call(call):
    """Return an equal call with a list of its own, if it has one."""
    if call[0] == "grip":
        return "grip", copied_comb(call[1])
    return call


class LiveBar:
    """A bar in a device.

    `_calls` has the calls that are not taken back. `_places` has a tuple (height, hand, grip) of the beginning and one
    behind each call, so that to take back a call is to forget the last one. No comb in them is ever changed.
    """

    def __init__(self, device, state):
        check_device(device)
        check_state(device, state)
        ground, grip = device
        height, hand = state
        self._ground = copied_comb(ground)
        self._calls = []
        self._places = [(height, hand, copied_comb(grip))]

    def _done(self, call, place):
        """Note a call and the place behind it."""
        self._calls.append(call)
        self._places.append(place)

    def move(self, by):
        """Move the hand."""
        check_step(by, "by")
        height, hand, grip = self._places[-1]
        new_height, new_hand = after_move((self._ground, grip), (height, hand), by)
        self._done(("move", by), (new_height, new_hand, grip))

    def pump(self, span, times):
        """Do the moves [span, -span] so many times."""
        check_least(span, 1, "span")
        check_least(times, 1, "times")
        height, hand, grip = self._places[-1]
        heights, ahead = repeated_heights(device_slacks((self._ground, grip)), (height, hand), [span, -span])
        self._done(("pump", span, times), (far_height(heights, ahead, times), hand, grip))

    def set_grip(self, comb):
        """Put another comb in the place of the grip, at the same hand."""
        check_comb(comb)
        height, hand, _ = self._places[-1]
        if not is_held((self._ground, comb), height, hand):
            raise Impossible("neither comb would have the bar")
        grip = copied_comb(comb)
        self._done(("grip", grip), (height, hand, grip))

    def undo(self):
        """Take back the last call that is not taken back yet."""
        if len(self._calls) == 0:
            raise NothingToUndo("no call is left")
        self._calls.pop()
        self._places.pop()

    @property
    def height(self):
        """The present height."""
        return self._places[-1][0]

    @property
    def hand(self):
        """The present hand."""
        return self._places[-1][1]

    @property
    def device(self):
        """The present device."""
        return copied_comb(self._ground), copied_comb(self._places[-1][2])

    @property
    def rises(self):
        """The list of the rises of the calls that are not taken back."""
        heights = [place[0] for place in self._places]
        return [high - low for low, high in zip(heights, heights[1:])]

    @property
    def log(self):
        """The list of the calls that are not taken back."""
        return [copied_call(call) for call in self._calls]

    def __len__(self):
        return len(self._calls)

    def fork(self):
        """Return a live bar in the same state, which can take back the same calls."""
        height, hand, grip = self._places[0]
        twin = LiveBar((self._ground, grip), (height, hand))
        twin._calls = list(self._calls)
        twin._places = list(self._places)
        return twin

    def __eq__(self, other):
        return (isinstance(other, LiveBar) and self._ground == other._ground
                and self._places[0] == other._places[0] and self._calls == other._calls)
