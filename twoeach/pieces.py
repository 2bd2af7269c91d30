"""Pieces: some names of cells and some kinds of lines, from which boxes of all sizes are grown."""

from twoeach.basics import is_list, is_name
from twoeach.checks import check_kind, check_names_among
from twoeach.errors import (
    InvalidKinds, InvalidNames, InvalidRenaming, KindTaken, SameKinds, TooMany, UnknownName)
from twoeach.kinds import Kind, is_renaming
from twoeach.renamings import least_renaming
from twoeach.sorting import in_order


def check_names(names):
    """Raises InvalidNames unless a list of different NAMES, of one at least."""
    if not is_list(names) or len(names) == 0:
        raise InvalidNames(None)
    for position, name in enumerate(names):
        if not is_name(name) or name in names[:position]:
            raise InvalidNames(position)


def is_kinds(value):
    """Whether any value is a dict from NAMES to Kinds."""
    if not isinstance(value, dict) or not all([is_name(name) for name in value]):
        return False
    return all([isinstance(kind, Kind) for kind in value.values()])


def is_pair(value):
    """Whether any value is a tuple (name, Kind)."""
    return isinstance(value, tuple) and len(value) == 2 and is_name(value[0]) and isinstance(value[1], Kind)


def check_known(names, kinds):
    """Raises UnknownName with the least name of an entry that is none of the names."""
    unknown = [name for kind in kinds.values() for name in kind.names() if name not in names]
    if len(unknown) > 0:
        raise UnknownName(in_order(unknown)[0])


def check_unlike(kinds):
    """Raises SameKinds if two kinds, by sorted names, are equal."""
    last = {tuple(kind.entries()): name for name, kind in kinds.items()}
    for one, kind in kinds.items():
        if last[tuple(kind.entries())] != one:
            raise SameKinds(one, [name for name in kinds if name > one and kinds[name] == kind][0])


def check_numbers(names, kinds):
    """Raises TooMany if there are more names or kinds than a piece has."""
    if len(names) > Piece.MOST_NAMES:
        raise TooMany("names", Piece.MOST_NAMES)
    if len(kinds) > Piece.MOST_KINDS:
        raise TooMany("kinds", Piece.MOST_KINDS)


def greatest_reach(kinds):
    """The greatest reach across and the greatest one up of some kinds, (0, 0) without kinds."""
    reaches = [kind.reach for kind in kinds]
    return max([int(across) for across, _ in reaches], default=0), max([int(up) for _, up in reaches], default=0)


class Piece:
    """Some different names, and kinds with names of their own; it never changes."""

    MOST_NAMES = 10
    MOST_KINDS = 6

    def __init__(self, names, kinds=None):
        check_names(names)
        if kinds is not None and not is_kinds(kinds):
            raise InvalidKinds(kinds)
        given = {} if kinds is None else kinds
        own = {name: given[name] for name in in_order(list(given))}
        check_known(names, own)
        check_unlike(own)
        check_numbers(names, own)
        self._names = tuple(in_order(names))
        self._kinds = own
        self._reach = greatest_reach(list(own.values()))

    @property
    def reach(self):
        """The tuple of the greatest reaches of its kinds."""
        return self._reach

    @property
    def is_flat(self):
        """Whether all its kinds are flat."""
        return self._reach[1] == 0

    def names(self):
        """The sorted list of its names."""
        return list(self._names)

    def kinds(self):
        """The sorted list of the names of its kinds."""
        return list(self._kinds)

    def holds(self):
        """The sorted list of the tuples of two kinds' names of which the first one holds the other one."""
        kinds = self._kinds
        return [(one, other) for one in kinds for other in kinds if one != other and kinds[other] <= kinds[one]]

    def core(self):
        """The piece with the same names and the kinds that hold no other one."""
        holding = [one for one, _ in self.holds()]
        return Piece(self._names, {name: self._kinds[name] for name in self._kinds if name not in holding})

    def struck(self, names):
        """The piece without the kinds that have one of these names."""
        check_names_among(names, self._names)
        kept = [kind for kind in self._kinds if not any([name in names for name in self._kinds[kind].names()])]
        return Piece(self._names, {kind: self._kinds[kind] for kind in kept})

    def mirrored(self):
        """The piece of the kinds with left and right exchanged."""
        return Piece(self._names, {name: kind.mirrored() for name, kind in self._kinds.items()})

    def turned(self):
        """The piece of the kinds with across and up exchanged."""
        return Piece(self._names, {name: kind.turned() for name, kind in self._kinds.items()})

    def renamed(self, names):
        """The piece with other names, by a dict from just its names to unlike names."""
        if not is_renaming(names) or in_order(list(names)) != self.names():
            raise InvalidRenaming(names)
        return Piece(list(names.values()), {name: kind.renamed(names) for name, kind in self._kinds.items()})

    def renaming(self, other):
        """The least renaming to another piece, a dict; None if there is none."""
        rows = [kind.entries() for kind in self._kinds.values()]
        goals = [kind.entries() for kind in other._kinds.values()]
        return least_renaming(self.names(), rows, other.names(), goals)

    def is_alike(self, other):
        """Whether there is a renaming to another piece."""
        return self.renaming(other) is not None

    def __len__(self):
        return len(self._kinds)

    def __contains__(self, x):
        return is_name(x) and x in self._kinds

    def __getitem__(self, at):
        check_kind(self, at)
        return self._kinds[at]

    def __iter__(self):
        raise TypeError("a piece is not iterated over")

    def __add__(self, other):
        """The piece with a kind more, a tuple (name, Kind)."""
        if not is_pair(other):
            raise InvalidKinds(other)
        name, kind = other
        if name in self:
            raise KindTaken(name)
        return Piece(self._names, {**self._kinds, name: kind})

    def __radd__(self, other):
        """The same with the piece behind the tuple."""
        return self + other

    def __sub__(self, other):
        """The piece without the kind of a name."""
        check_kind(self, other)
        return Piece(self._names, {name: self._kinds[name] for name in self._kinds if name != other})

    def __or__(self, other):
        """The names and the kinds of both."""
        if not isinstance(other, Piece):
            return NotImplemented
        both = [name for name in self._kinds if name in other]
        if len(both) > 0:
            raise KindTaken(both[0])
        more = [name for name in other._names if name not in self._names]
        return Piece(self.names() + more, {**self._kinds, **other._kinds})

    def __eq__(self, other):
        return isinstance(other, Piece) and self._names == other._names and self._kinds == other._kinds

    def __repr__(self):
        if len(self._kinds) == 0:
            return f"Piece({list(self._names)!r})"
        return f"Piece({list(self._names)!r}, {self._kinds!r})"
