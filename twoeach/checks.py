"""The errors that belong to parameters of certain names everywhere."""

from twoeach.basics import is_integer, is_list
from twoeach.errors import InvalidLines, InvalidNames, InvalidSet, InvalidSize, UnknownCell, UnknownLine

GREATEST_SIZE = 10 ** 30


def is_size(value):
    """Whether any value is an INTEGER from 1 to 10 ** 30."""
    return is_integer(value) and 1 <= value <= GREATEST_SIZE


def check_size(value):
    """Raises InvalidSize unless a size."""
    if not is_size(value):
        raise InvalidSize(value)


def check_cell(box, cell):
    """Raises UnknownCell unless a cell of the box."""
    if cell not in box:
        raise UnknownCell(cell)


def check_line(box, line):
    """Raises UnknownLine unless a line of the box."""
    if not box.is_line(line):
        raise UnknownLine(line)


def check_lines(box, lines):
    """Raises InvalidLines unless a list of different lines of the box."""
    if not is_list(lines):
        raise InvalidLines(None)
    ahead = {}
    for position, line in enumerate(lines):
        if not box.is_line(line) or line in ahead:
            raise InvalidLines(position)
        ahead[line] = True


def check_set(piece, kinds):
    """Raises InvalidSet unless a list of different kinds' names of the piece."""
    if not is_list(kinds):
        raise InvalidSet(None)
    for position, kind in enumerate(kinds):
        if kind not in piece or kind in kinds[:position]:
            raise InvalidSet(position)


def check_names_among(names, known):
    """Raises InvalidNames unless a list of different names, all of which are known."""
    if not is_list(names):
        raise InvalidNames(None)
    for position, name in enumerate(names):
        if name not in known or name in names[:position]:
            raise InvalidNames(position)
