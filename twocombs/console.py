"""A console that takes commands to a live bar and answers them with strings."""

from twocombs.errors import InvalidCommand, InvalidSyntax
from twocombs.live import LiveBar
from twocombs.means import mean_rise, stuck_heights
from twocombs.rounds import first_time
from twocombs.spans import climbing_span
from twocombs.texts import format_state, is_count, is_number, numbers_text, read_device, read_moves


def begun_bar(device):
    """Return a live bar in this device, at the least height from 0 on at which the ground catches."""
    ground, _ = device
    _, teeth = ground
    return LiveBar(device, (teeth[0], 0))


def words_device(words):
    """Return the device with these words of a command."""
    try:
        return read_device(words)
    except InvalidSyntax:
        raise InvalidCommand("a device was expected") from None


def words_moves(words):
    """Return the moves with these words of a command, of which there may be none."""
    try:
        return read_moves(words)
    except InvalidSyntax:
        raise InvalidCommand("moves were expected") from None


def words_number(words):
    """Return the number that is the one of these words of a command."""
    if len(words) != 1 or not is_number(words[0]):
        raise InvalidCommand("one number was expected")
    return int(words[0])


def words_counts(words):
    """Return the two numbers from 0 on that are these words of a command."""
    if len(words) != 2 or not is_count(words[0]) or not is_count(words[1]):
        raise InvalidCommand("two numbers from 0 on were expected")
    return int(words[0]), int(words[1])


def check_no_words(words):
    """Raise InvalidCommand if there is a word behind the first one of a command."""
    if len(words) > 0:
        raise InvalidCommand("this command is one word")


def do_move(bar, words):
    """Carry out `move BY`."""
    bar.move(words_number(words))
    return "ok"


def do_pump(bar, words):
    """Carry out `pump SPAN TIMES`."""
    span, times = words_counts(words)
    bar.pump(span, times)
    return "ok"


def do_undo(bar, words):
    """Carry out `undo`."""
    check_no_words(words)
    bar.undo()
    return "ok"


def tell_state(bar, words):
    """Answer `state`."""
    check_no_words(words)
    return format_state((bar.height, bar.hand))


def tell_start(bar, words):
    """Answer `start`."""
    check_no_words(words)
    ground, grip = bar.device
    return numbers_text([bar.height % ground[0], (bar.height - bar.hand) % grip[0]])


def tell_rise(bar, words):
    """Answer `rise BY`."""
    by = words_number(words)
    trial = bar.fork()
    trial.move(by)
    return str(trial.height - bar.height)


def tell_mean(bar, words):
    """Answer `mean MOVES`."""
    top, bottom = mean_rise(bar.device, bar.hand, words_moves(words))
    if bottom == 1:
        return str(top)
    return f"{top}/{bottom}"


def tell_stuck(bar, words):
    """Answer `stuck MOVES`."""
    heights = stuck_heights(bar.device, bar.hand, words_moves(words))
    if len(heights) == 0:
        return "none"
    return numbers_text(heights)


def tell_span(bar, words):
    """Answer `span`."""
    check_no_words(words)
    return str(climbing_span(bar.device, bar.hand))


def tell_time(bar, words):
    """Answer `time HEIGHT MOVES`."""
    height = words_number(words[:1])
    moves = words_moves(words[1:])
    times = first_time(bar.device, (bar.height, bar.hand), moves, height)
    if times is None:
        return "none"
    return str(times)


ANSWERS = {
    "move": do_move,
    "pump": do_pump,
    "undo": do_undo,
    "state": tell_state,
    "start": tell_start,
    "rise": tell_rise,
    "mean": tell_mean,
    "stuck": tell_stuck,
    "span": tell_span,
    "time": tell_time,
}


class Console:
    """A live bar that is moved and asked by commands."""

    def __init__(self):
        self._bar = begun_bar(((10, [0]), (10, [0])))

    def execute(self, command):
        """Carry out a command and return its answer."""
        if not isinstance(command, str):
            raise InvalidCommand("a command is a string")
        words = command.split(" ")
        if words[0] == "device":
            self._bar = begun_bar(words_device(words[1:]))
            return "ok"
        if words[0] not in ANSWERS:
            raise InvalidCommand("there is no such command")
        answer = ANSWERS[words[0]]
        return answer(self._bar, words[1:])
