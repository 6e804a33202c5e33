"""Judgements of plain values that several parts share."""

from twocombs.errors import InvalidNumber


def is_whole(value):
    """Tell whether any value is an integer; True and False are none, although bool is a kind of int."""
    return isinstance(value, int) and not isinstance(value, bool)


def is_pair(value):
    """Tell whether any value is a tuple of two items."""
    return isinstance(value, tuple) and len(value) == 2


def is_whole_pair(value):
    """Tell whether any value is a tuple of two integers."""
    return is_pair(value) and is_whole(value[0]) and is_whole(value[1])


def check_whole(value, name):
    """Raise InvalidNumber unless the argument with this name is an integer."""
    if not is_whole(value):
        raise InvalidNumber(f"{name} is no integer")


def check_least(value, least, name):
    """Raise InvalidNumber unless the argument with this name is an integer from the least one on."""
    check_whole(value, name)
    if value < least:
        raise InvalidNumber(f"{name} is below {least}")


def check_step(value, name):
    """Raise InvalidNumber unless the argument with this name is an integer other than 0."""
    check_whole(value, name)
    if value == 0:
        raise InvalidNumber(f"{name} is 0")


def check_between(value, least, greatest, name):
    """Raise InvalidNumber unless the argument with this name is an integer from the least to the greatest one."""
    check_least(value, least, name)
    if value > greatest:
        raise InvalidNumber(f"{name} is above {greatest}")
