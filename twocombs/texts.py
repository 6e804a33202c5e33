"""Devices, moves and states as texts, and back.

The readers take the words of a text, and raise InvalidSyntax with the index of the first word that cannot stand there,
or with the number of the words if only words are missing: that is where the next word would stand.
"""

from twocombs.combs import MOST_PITCH, check_device
from twocombs.errors import InvalidSyntax
from twocombs.moving import MOST_MOVES, is_held

MOST_DIGITS = 40
DIGITS = "0123456789"


def numbers_text(numbers):
    """Return numbers as words."""
    return " ".join([str(number) for number in numbers])


def comb_text(comb):
    """Return the words of a comb."""
    pitch, teeth = comb
    return f"{pitch}: {numbers_text(teeth)}"


def format_device(device):
    """Return the text of a device."""
    ground, grip = device
    return f"{comb_text(ground)} / {comb_text(grip)}"


def format_moves(moves):
    """Return the text of moves; that of no moves is empty."""
    return numbers_text(moves)


def format_state(state):
    """Return the text of a state."""
    height, hand = state
    return f"{height} {hand}"


def is_count(word):
    """Tell whether a word is a number from 0 on."""
    if word == "" or len(word) > MOST_DIGITS:
        return False
    if word[0] == "0" and len(word) > 1:
        return False
    return all([sign in DIGITS for sign in word])


def is_number(word):
    """Tell whether a word is a number, which may be below 0."""
    if word.startswith("-"):
        return is_count(word[1:]) and word != "-0"
    return is_count(word)


def is_pitch_word(word):
    """Tell whether a word is a pitch with `:` behind it."""
    return word.endswith(":") and is_count(word[:-1]) and 1 <= int(word[:-1]) <= MOST_PITCH


def is_tooth_word(word, teeth, pitch):
    """Tell whether a word is a tooth that can stand behind these teeth in a comb with this pitch."""
    if not is_count(word) or int(word) >= pitch:
        return False
    return len(teeth) == 0 or int(word) > teeth[-1]


def read_comb(words, at):
    """Return the comb whose words begin at an index, as far as teeth go, and the index behind them."""
    if at == len(words) or not is_pitch_word(words[at]):
        raise InvalidSyntax(at)
    pitch = int(words[at][:-1])
    place = at + 1
    teeth = []
    while place < len(words) and is_tooth_word(words[place], teeth, pitch):
        teeth.append(int(words[place]))
        place = place + 1
    if len(teeth) == 0:
        raise InvalidSyntax(place)
    return (pitch, teeth), place


def read_device(words):
    """Return the device with these words."""
    ground, at = read_comb(words, 0)
    if at == len(words) or words[at] != "/":
        raise InvalidSyntax(at)
    grip, end = read_comb(words, at + 1)
    if end < len(words):
        raise InvalidSyntax(end)
    return ground, grip


def read_moves(words):
    """Return the moves with these words, of which there may be none."""
    moves = []
    for index, word in enumerate(words):
        if index == MOST_MOVES or not is_number(word) or word == "0":
            raise InvalidSyntax(index)
        moves.append(int(word))
    return moves


def read_number(words, at):
    """Return the number that stands at an index."""
    if at == len(words) or not is_number(words[at]):
        raise InvalidSyntax(at)
    return int(words[at])


def text_words(text):
    """Return the words of a text; the empty string is one empty word."""
    if not isinstance(text, str):
        raise InvalidSyntax(None)
    return text.split(" ")


def parse_device(text):
    """Return the device with this text."""
    return read_device(text_words(text))


def parse_moves(text):
    """Return the moves with this text."""
    words = text_words(text)
    if text == "":
        return []
    return read_moves(words)


def parse_state(device, text):
    """Return the state of the device with this text."""
    check_device(device)
    words = text_words(text)
    height = read_number(words, 0)
    hand = read_number(words, 1)
    if not is_held(device, height, hand):
        raise InvalidSyntax(1)
    if len(words) > 2:
        raise InvalidSyntax(2)
    return height, hand
