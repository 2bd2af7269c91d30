"""The errors that this package raises, each with what it tells as its attributes."""


class LineError(ValueError):
    """A value that was passed is not valid."""


class InvalidEntries(LineError):
    """What was passed are not the entries of a kind."""

    def __init__(self, position):
        self.position = position


class InvalidNames(LineError):
    """What was passed are not the names that are asked for."""

    def __init__(self, position):
        self.position = position


class InvalidKinds(LineError):
    """What was passed are not kinds with names of their own."""

    def __init__(self, value):
        self.value = value


class InvalidRenaming(LineError):
    """What was passed is not a dict from names to unlike names."""

    def __init__(self, value):
        self.value = value


class InvalidSize(LineError):
    """What was passed is not a size."""

    def __init__(self, value):
        self.value = value


class InvalidLines(LineError):
    """What was passed are not different lines of the box."""

    def __init__(self, position):
        self.position = position


class InvalidSet(LineError):
    """What was passed are not different kinds of the piece."""

    def __init__(self, position):
        self.position = position


class InvalidChoice(LineError):
    """What was passed is not a choice of the piece."""

    def __init__(self, value):
        self.value = value


class InvalidMarks(LineError):
    """What was passed are not cells that can be marked."""

    def __init__(self, position):
        self.position = position


class InvalidHeight(LineError):
    """What was passed is not a height."""

    def __init__(self, value):
        self.value = value


class InvalidPeriod(LineError):
    """What was passed is not a period."""

    def __init__(self, value):
        self.value = value


class InvalidPartners(LineError):
    """What was passed are not the partners of a plan."""

    def __init__(self, value):
        self.value = value


class InvalidColumn(LineError):
    """What was passed is not a column."""

    def __init__(self, value):
        self.value = value


class InvalidState(LineError):
    """What was passed is not a state of the piece."""

    def __init__(self, value):
        self.value = value


class InvalidLength(LineError):
    """What was passed is not a length."""

    def __init__(self, value):
        self.value = value


class InvalidText(LineError):
    """What was passed is not the text of a piece."""

    def __init__(self, line):
        self.line = line


class InvalidClaim(LineError):
    """What was passed is not a claim."""

    def __init__(self, value):
        self.value = value


class InvalidWay(LineError):
    """What was passed is not a way of answering."""

    def __init__(self, value):
        self.value = value


class InvalidCommand(LineError):
    """What was passed is not a command."""

    def __init__(self, value):
        self.value = value


class MissingError(LookupError):
    """What was asked for is not there."""


class UnknownName(MissingError):
    """There is no such name."""

    def __init__(self, value):
        self.value = value


class UnknownKind(MissingError):
    """There is no kind of this name."""

    def __init__(self, value):
        self.value = value


class UnknownCell(MissingError):
    """There is no such cell."""

    def __init__(self, value):
        self.value = value


class UnknownLine(MissingError):
    """There is no such line."""

    def __init__(self, value):
        self.value = value


class StateError(RuntimeError):
    """Valid values do not go together, or not now."""


class KindTaken(StateError):
    """There is a kind of this name already."""

    def __init__(self, value):
        self.value = value


class SameKinds(StateError):
    """Two names have the same kind."""

    def __init__(self, one, other):
        self.one = one
        self.other = other


class NotFlat(StateError):
    """The piece is not flat."""

    def __init__(self, value):
        self.value = value


class OtherPiece(StateError):
    """Two pieces that must be equal are not."""

    def __init__(self, one, other):
        self.one = one
        self.other = other


class Marked(StateError):
    """The cell is marked already."""

    def __init__(self, value):
        self.value = value


class WrongTurn(StateError):
    """Another one has the turn."""

    def __init__(self, value):
        self.value = value


class NoAnswer(StateError):
    """There is nothing to answer."""

    def __init__(self):
        pass


class NothingToUndo(StateError):
    """There is no mark that could be taken back."""

    def __init__(self):
        pass


class CommandFailed(StateError):
    """One of several commands could not be performed."""

    def __init__(self, position):
        self.position = position


class LimitError(ArithmeticError):
    """A limit of this package is passed."""


class TooMany(LimitError):
    """There are more of these than the limit."""

    def __init__(self, what, limit):
        self.what = what
        self.limit = limit
