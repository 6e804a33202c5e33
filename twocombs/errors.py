"""The errors that the package raises."""


class CombError(ValueError):
    """The base of all errors here."""


class InvalidNumber(CombError):
    """A number is no integer, or it is not within its limits."""


class InvalidState(CombError):
    """A state is none of its device."""


class InvalidHeight(CombError):
    """A height is not held at its hand."""


class Impossible(CombError):
    """What was asked for cannot be."""


class NothingToUndo(CombError):
    """No call is left that can be taken back."""


class InvalidCommand(CombError):
    """A command has none of the forms of the console."""


class InvalidComb(CombError):
    """No comb: None for the whole, 0 for its pitch, 1 for its teeth."""

    def __init__(self, index):
        CombError.__init__(self, f"no comb (item: {index})")
        self.index = index


class InvalidDevice(CombError):
    """No device: None for the whole, otherwise the index of the first wrong comb."""

    def __init__(self, index):
        CombError.__init__(self, f"no device (comb: {index})")
        self.index = index


class InvalidMoves(CombError):
    """No moves: None for the whole, otherwise the index of the first wrong move."""

    def __init__(self, index):
        CombError.__init__(self, f"no moves (item: {index})")
        self.index = index


class InvalidLooks(CombError):
    """No looks: None for the whole, otherwise the index of the first wrong look."""

    def __init__(self, index):
        CombError.__init__(self, f"no looks (item: {index})")
        self.index = index


class InvalidSyntax(CombError):
    """No such text: None if it is no string, otherwise the index of the first wrong word."""

    def __init__(self, word):
        CombError.__init__(self, f"no such text (word: {word})")
        self.word = word
