"""The columns of a flat piece that a state tells, and steps that put one more behind them.

Inside the package a state is a CODE (columns, pairs, free): how many columns it tells, the sum of the bits of its pairs
of partners, and the sum of the bits of its free places. Places are told by their positions in the state.
"""

from twoeach.basics import is_integer
from twoeach.checks import check_flat
from twoeach.errors import TooMany

MOST_PLACES = 8
USED = -1
START = (0, 0, 0)


def pair_bit(one, other):
    """The bit of a pair of positions, the lesser one first."""
    # Both positions less by one make a bit that is MOST_PLACES lower, so one shift drops the eldest column.
    return 1 << (MOST_PLACES * one + other - one)


def line_bits(places):
    """The sum of the bits of all pairs of sorted positions."""
    return sum([pair_bit(one, other) for at, one in enumerate(places) for other in places[at + 1:]])


def is_narrow(piece):
    """Whether a piece has no more cells in a line's way than the limit."""
    return len(piece.names()) * (piece.reach[0] + 1) <= MOST_PLACES


def is_within_window(piece):
    """Whether a piece is flat, and within the limit."""
    return piece.is_flat and is_narrow(piece)


def check_window(piece):
    """Raises NotFlat, or TooMany if the piece has too many cells in a line's way."""
    check_flat(piece)
    if not is_narrow(piece):
        raise TooMany("cells", MOST_PLACES)


def places_of(piece, kind):
    """The sorted positions of the places of a line of a kind, told from the column where it begins."""
    names = piece.names()
    return [len(names) * across + names.index(name) for across, _, name in piece[kind].entries()]


def gaps_of(many, lines):
    """A dict of the useful pairs: tuples of the first position in its column, and how far the other one is behind."""
    return {(one % many, other - one): True for places in lines for at, one in enumerate(places)
            for other in places[at + 1:]}


class Window:
    """What steps between states of a piece hang on; it never changes."""

    def __init__(self, piece):
        check_window(piece)
        lines = [places_of(piece, kind) for kind in piece.kinds()]
        self._places = len(piece.names())
        self._columns = piece.reach[0]
        self._gaps = gaps_of(self._places, lines)
        self._mates = [self._mates_at(column) for column in range(self._columns + 1)]
        self._lines = [self._lines_at(column, lines) for column in range(self._columns + 1)]

    @property
    def places(self):
        """How many places a column has."""
        return self._places

    @property
    def columns(self):
        """How many columns a state tells at most."""
        return self._columns

    @property
    def gaps(self):
        """The useful pairs, as a list of tuples (position in its column, distance of the other one)."""
        return list(self._gaps)

    def is_state(self, value):
        """Whether any value is a state."""
        if not isinstance(value, tuple) or not all([is_integer(mate) for mate in value]):
            return False
        if len(value) % self._places != 0 or len(value) > self._places * self._columns:
            return False
        return all([self._fits(value, place, mate) for place, mate in enumerate(value)])

    def code_of(self, state):
        """The code of a state."""
        free = sum([1 << place for place, mate in enumerate(state) if mate == place])
        pairs = sum([pair_bit(place, mate) for place, mate in enumerate(state) if mate > place])
        return len(state) // self._places, pairs, free

    def state_of(self, code):
        """The state of a code."""
        columns, pairs, free = code
        state = [place if free >> place & 1 == 1 else USED for place in range(columns * self._places)]
        for one, other in self.pairs_of(pairs):
            state[one] = other
            state[other] = one
        return tuple(state)

    def pairs_of(self, pairs):
        """The positions of pairs that are told by the sum of their bits, a list."""
        whole = self._places * (self._columns + 1)
        return [(one, other) for one in range(whole) for other in range(one + 1, whole)
                if pairs & pair_bit(one, other) != 0]

    def steps_from(self, code):
        """A dict from the codes to which steps lead to the pairs, ahead of dropping, of one such step."""
        columns, pairs, free = code
        dropped = 1 if columns == self._columns else 0
        places = dropped * self._places
        return {(columns + 1 - dropped, joined >> (MOST_PLACES * places), left >> places): joined
                for joined, left in self._ways(columns, pairs, free)}

    def _fits(self, state, place, mate):
        """Whether a place of a state can have this mate."""
        if mate == USED or mate == place:
            return True
        if not 0 <= mate < len(state) or state[mate] != place:
            return False
        return self._is_useful(min(int(place), int(mate)), max(int(place), int(mate)))

    def _is_useful(self, one, other):
        """Whether two positions, the lesser one first, are a useful pair."""
        return (one % self._places, other - one) in self._gaps

    def _mates_at(self, column):
        """For each place of a new column, its bit and a list of the bits of other places and of the pairs of both."""
        places = range(column * self._places, (column + 1) * self._places)
        return [(1 << place, [(1 << other, pair_bit(other, place)) for other in range(place)
                              if self._is_useful(other, place)]) for place in places]

    def _lines_at(self, column, lines):
        """The bits of the pairs of each line that ends in a new column."""
        shifts = [column * self._places - places[-1] // self._places * self._places for places in lines]
        return [line_bits([place + shift for place in places])
                for places, shift in zip(lines, shifts) if shift >= 0]

    def _ways(self, columns, pairs, free):
        """All ways to put a column behind a state that serve the lines that end in it: tuples (pairs, free)."""
        ways = [(pairs, free | ((1 << self._places) - 1) << (columns * self._places))]
        for own, mates in self._mates[columns]:
            ways = ways + [(joined | bit, left ^ own ^ other) for joined, left in ways if left & own != 0
                           for other, bit in mates if left & other != 0]
        for line in self._lines[columns]:
            ways = [way for way in ways if way[0] & line != 0]
        return ways
