"""Pieces written as texts, and read again."""

from twoeach.basics import is_name
from twoeach.errors import InvalidText
from twoeach.kinds import Kind
from twoeach.pieces import Piece
from twoeach.sorting import is_ascending

DIGITS = {"0": 0, "1": 1, "2": 2, "3": 3}


def entry_text(entry):
    """An entry as it stands in a text."""
    across, up, name = entry
    return f"{across},{up},{name}"


def kind_line(name, kind):
    """The line of a kind."""
    return f"kind {name}: " + " ".join([entry_text(entry) for entry in kind.entries()])


def piece_text(piece):
    """The text of a piece."""
    lines = ["names " + " ".join(piece.names())] + [kind_line(name, piece[name]) for name in piece.kinds()]
    return "".join([line + "\n" for line in lines])


def named_piece(line):
    """The piece without kinds of a line with names; None if it is no such line."""
    first, *names = line.split(" ")
    if first != "names" or not 1 <= len(names) <= Piece.MOST_NAMES:
        return None
    if not all([is_name(name) for name in names]) or not is_ascending(names):
        return None
    return Piece(names)


def read_entry(piece, word):
    """The entry of a word, with a name of a piece; None if it is no such word."""
    parts = word.split(",")
    if len(parts) != 3 or parts[0] not in DIGITS or parts[1] not in DIGITS or parts[2] not in piece.names():
        return None
    return DIGITS[parts[0]], DIGITS[parts[1]], parts[2]


def read_kind(piece, words):
    """The kind of some words, a new one for a piece; None if they are not written as its entries."""
    entries = [read_entry(piece, word) for word in words]
    if not 2 <= len(entries) <= Kind.MOST_ENTRIES or not all([entry is not None for entry in entries]):
        return None
    if not is_ascending(entries):
        return None
    kind = Kind.of(entries)
    known = [piece[name] for name in piece.kinds()]
    return kind if kind.entries() == entries and kind not in known else None


def with_kind(piece, line):
    """The piece with the kind of the next line; None if that is no such line."""
    words = line.split(" ")
    if len(words) < 2 or words[0] != "kind" or len(piece) == Piece.MOST_KINDS or not words[1].endswith(":"):
        return None
    name = words[1].removesuffix(":")
    if not is_name(name) or not is_ascending(piece.kinds() + [name]):
        return None
    kind = read_kind(piece, words[2:])
    return None if kind is None else piece + (name, kind)


def read_piece(text):
    """The piece of a text."""
    if not isinstance(text, str):
        raise InvalidText(None)
    *lines, rest = text.split("\n")
    piece = None
    # Lines that are right so far are the text of a piece themselves, so each one is judged by those ahead of it.
    for number, line in enumerate(lines, start=1):
        piece = named_piece(line) if piece is None else with_kind(piece, line)
        if piece is None:
            raise InvalidText(number)
    if piece is None or rest != "":
        raise InvalidText(len(lines) + 1)
    return piece
