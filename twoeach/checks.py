"""The errors that belong to parameters of certain names everywhere."""

from twoeach.basics import is_integer, is_list
from twoeach.errors import (
    InvalidColumn, InvalidHeight, InvalidLength, InvalidLines, InvalidNames, InvalidSet, InvalidSize, NotFlat,
    OtherPiece, UnknownCell, UnknownKind, UnknownLine)

GREATEST_SIZE = 10 ** 30
GREATEST_HEIGHT = 3


def is_size(value):
    """Whether any value is an INTEGER from 1 to 10 ** 30."""
    return is_integer(value) and 1 <= value <= GREATEST_SIZE


def check_size(value):
    """Raises InvalidSize unless a size."""
    if not is_size(value):
        raise InvalidSize(value)


def check_length_size(value):
    """Raises InvalidLength unless a size."""
    if not is_size(value):
        raise InvalidLength(value)


def check_height(value):
    """Raises InvalidHeight unless an INTEGER from 1 to 3."""
    if not is_integer(value) or not 1 <= value <= GREATEST_HEIGHT:
        raise InvalidHeight(value)


def check_column(value):
    """Raises InvalidColumn unless an INTEGER."""
    if not is_integer(value):
        raise InvalidColumn(value)


def check_kind(piece, kind):
    """Raises UnknownKind unless the name of a kind of the piece."""
    if kind not in piece:
        raise UnknownKind(kind)


def check_flat(piece):
    """Raises NotFlat unless the piece is flat."""
    if not piece.is_flat:
        raise NotFlat(piece)


def check_same_piece(piece, box):
    """Raises OtherPiece unless the box is one of the piece."""
    if box.piece != piece:
        raise OtherPiece(piece, box.piece)


def check_cell(box, cell):
    """Raises UnknownCell unless a cell of the box."""
    if cell not in box:
        raise UnknownCell(cell)


def check_line(box, line):
    """Raises UnknownLine unless a line of the box."""
    if not box.is_line(line):
        raise UnknownLine(line)


def check_lines(box, lines):
    """Raises InvalidLines unless a list of different lines of the box."""
    if not is_list(lines):
        raise InvalidLines(None)
    ahead = {}
    for position, line in enumerate(lines):
        if not box.is_line(line) or line in ahead:
            raise InvalidLines(position)
        ahead[line] = True


def check_set(piece, kinds):
    """Raises InvalidSet unless a list of different kinds' names of the piece."""
    if not is_list(kinds):
        raise InvalidSet(None)
    for position, kind in enumerate(kinds):
        if kind not in piece or kind in kinds[:position]:
            raise InvalidSet(position)


def check_names_among(names, known):
    """Raises InvalidNames unless a list of different names, all of which are known."""
    if not is_list(names):
        raise InvalidNames(None)
    for position, name in enumerate(names):
        if name not in known or name in names[:position]:
            raise InvalidNames(position)
