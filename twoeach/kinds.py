"""Kinds of lines: the entries of a line's cells, told without the place where the line lies."""

from twoeach.basics import is_integer, is_list, is_name
from twoeach.errors import InvalidEntries, InvalidRenaming, TooMany
from twoeach.sorting import in_order

FARTHEST = 20
FEWEST_ENTRIES = 2


def is_distance(value):
    """Whether any value can be the across or the up of an entry."""
    return is_integer(value) and -FARTHEST <= value <= FARTHEST


def is_entry(value):
    """Whether any value is a tuple (across, up, name)."""
    if not isinstance(value, tuple) or len(value) != 3:
        return False
    across, up, name = value
    return is_distance(across) and is_distance(up) and is_name(name)


def is_renaming(value):
    """Whether any value is a dict from NAMES to unlike NAMES."""
    if not isinstance(value, dict):
        return False
    new = list(value.values())
    return all([is_name(name) for name in list(value) + new]) and len(set(new)) == len(new)


def check_entries(entries):
    """Raises InvalidEntries unless the entries of a tuple can be those of a kind."""
    if len(entries) < FEWEST_ENTRIES or len(entries) > Kind.MOST_ENTRIES:
        raise InvalidEntries(None)
    for position, entry in enumerate(entries):
        if not is_entry(entry) or entry in entries[:position]:
            raise InvalidEntries(position)


def normed(entries):
    """The entries, all shifted alike so that the least across and up are 0, sorted."""
    low = min([int(entry[0]) for entry in entries])
    bottom = min([int(entry[1]) for entry in entries])
    return in_order([(across - low, up - bottom, name) for across, up, name in entries])


def reach_of(entries):
    """The greatest across and the greatest up of normed entries."""
    return max([int(entry[0]) for entry in entries]), max([int(entry[1]) for entry in entries])


def check_reach(reach):
    """Raises TooMany if a reach is greater than that of any kind."""
    across, up = reach
    if across > Kind.MOST_REACH:
        raise TooMany("across", Kind.MOST_REACH)
    if up > Kind.MOST_REACH:
        raise TooMany("up", Kind.MOST_REACH)


def shifted(entries, shift):
    """The entries, all moved by a tuple (across, up)."""
    right, upwards = shift
    return [(across + right, up + upwards, name) for across, up, name in entries]


def lie_among(entries, others):
    """Whether all entries are among others."""
    return all([entry in others for entry in entries])


def shifts_among(entries, others):
    """The tuples (across, up) by which sorted entries, shifted, lie among other sorted ones."""
    # The first entry must come to lie on one of the others; as these are sorted, so are the shifts.
    left, bottom, first = entries[0]
    shifts = [(across - left, up - bottom) for across, up, name in others if name == first]
    return [shift for shift in shifts if lie_among(shifted(entries, shift), others)]


class Kind:
    """A kind of lines: 2 to 6 entries (across, up, name), normed; it never changes."""

    MOST_ENTRIES = 6
    MOST_REACH = 3

    def __init__(self, *entries):
        check_entries(entries)
        own = normed(entries)
        reach = reach_of(own)
        check_reach(reach)
        self._entries = tuple(own)
        self._reach = reach

    @staticmethod
    def of(entries):
        """The kind of a list of entries."""
        if not is_list(entries):
            raise InvalidEntries(None)
        return Kind(*entries)

    @property
    def reach(self):
        """The tuple (greatest across, greatest up)."""
        return self._reach

    @property
    def is_flat(self):
        """Whether its reach up is 0."""
        return self._reach[1] == 0

    def entries(self):
        """The sorted list of its entries, normed."""
        return list(self._entries)

    def names(self):
        """The sorted list of the names in its entries, each once."""
        return in_order(list({entry[2]: True for entry in self._entries}))

    def shifts_in(self, other):
        """The sorted list of the shifts by which its entries lie among those of other."""
        return shifts_among(self._entries, other._entries)

    def mirrored(self):
        """The kind with left and right exchanged."""
        width = self._reach[0]
        return Kind.of([(width - across, up, name) for across, up, name in self._entries])

    def turned(self):
        """The kind with across and up exchanged."""
        return Kind.of([(up, across, name) for across, up, name in self._entries])

    def renamed(self, names):
        """The kind with other names, by a dict from names, its own among them, to unlike names."""
        if not is_renaming(names) or not all([name in names for name in self.names()]):
            raise InvalidRenaming(names)
        return Kind.of([(across, up, names[name]) for across, up, name in self._entries])

    def __len__(self):
        return len(self._entries)

    def __contains__(self, x):
        return is_entry(x) and x in self._entries

    def __le__(self, other):
        """Whether other holds this kind."""
        if not isinstance(other, Kind):
            return NotImplemented
        return len(shifts_among(self._entries, other._entries)) > 0

    def __ge__(self, other):
        """Whether this kind holds other."""
        if not isinstance(other, Kind):
            return NotImplemented
        return len(shifts_among(other._entries, self._entries)) > 0

    def __eq__(self, other):
        return isinstance(other, Kind) and self._entries == other._entries

    def __repr__(self):
        return f"Kind{self._entries!r}"
