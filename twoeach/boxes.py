"""Boxes of a piece: their cells and lines, which are reckoned and not listed, as sizes are up to 10 ** 30."""

from twoeach.basics import is_count
from twoeach.checks import check_cell, check_kind, check_line, check_size
from twoeach.errors import TooMany, UnknownLine
from twoeach.sorting import in_order

MOST_LISTED_LINES = 200
MOST_LISTED_CELLS = 2000


def spots(size, reach):
    """How many places along a size leave room for a reach."""
    return max(0, size - reach)


def ahead_of(place, terms):
    """How many lines begin ahead of a place; a term tells how many places have lines, and how many each has."""
    return sum([min(int(place), many) * each for many, each in terms])


def place_of(number, terms):
    """The place at which the line with this number begins."""
    low = 0
    high = max([int(many) for many, _ in terms])
    while high - low > 1:
        middle = (low + high) // 2
        if ahead_of(middle, terms) <= number:
            low = middle
        else:
            high = middle
    return low


class Box:
    """A box of a piece with two sizes; it never changes."""

    def __init__(self, piece, wide, tall=1):
        check_size(wide)
        check_size(tall)
        self._piece = piece
        self._wide = wide
        self._tall = tall
        self._rooms = {kind: (spots(wide, piece[kind].reach[0]), spots(tall, piece[kind].reach[1]))
                       for kind in piece.kinds()}

    @staticmethod
    def square(piece, size):
        """The box with two equal sizes."""
        return Box(piece, size, size)

    @property
    def piece(self):
        """The piece that it is a box of."""
        return self._piece

    @property
    def wide(self):
        """How many columns it has."""
        return self._wide

    @property
    def tall(self):
        """How many rows it has."""
        return self._tall

    @property
    def cells(self):
        """How many cells it has."""
        return self._wide * self._tall * len(self._piece.names())

    @property
    def lines(self):
        """How many lines it has."""
        return sum([columns * rows for columns, rows in self._rooms.values()])

    def is_line(self, value):
        """Whether any value is one of its lines."""
        if not isinstance(value, tuple) or len(value) != 3:
            return False
        x, y, kind = value
        if not is_count(x) or not is_count(y) or kind not in self._piece:
            return False
        return x < self._rooms[kind][0] and y < self._rooms[kind][1]

    def lines_of(self, kind):
        """How many lines of a kind it has."""
        check_kind(self._piece, kind)
        columns, rows = self._rooms[kind]
        return columns * rows

    def number_of(self, line):
        """The number of a line among all lines, sorted."""
        check_line(self, line)
        x, y, kind = line
        ahead = ahead_of(x, self._column_terms()) + ahead_of(y, self._row_terms(x))
        return ahead + self._kinds_at(x, y).index(kind)

    def cells_of(self, line):
        """The sorted list of the cells of a line."""
        check_line(self, line)
        x, y, kind = line
        return [(x + across, y + up, name) for across, up, name in self._piece[kind].entries()]

    def lines_at(self, cell):
        """The sorted list of the lines that have a cell."""
        check_cell(self, cell)
        x, y, own = cell
        lines = [(x - across, y - up, kind) for kind in self._piece.kinds()
                 for across, up, name in self._piece[kind].entries() if name == own]
        return in_order([line for line in lines if self.is_line(line)])

    def common(self, line, other):
        """The sorted list of the cells of both lines."""
        check_line(self, line)
        beside = self.cells_of(other)
        return [cell for cell in self.cells_of(line) if cell in beside]

    def all_lines(self):
        """The sorted list of all lines, if they are not too many."""
        if self.lines > MOST_LISTED_LINES:
            raise TooMany("lines", MOST_LISTED_LINES)
        rooms = [(columns, rows, kind) for kind, (columns, rows) in self._rooms.items() if columns > 0 and rows > 0]
        wide = max([int(columns) for columns, _, _ in rooms], default=0)
        tall = max([int(rows) for _, rows, _ in rooms], default=0)
        fitting = [[(columns, kind) for columns, rows, kind in rooms if y < rows] for y in range(tall)]
        return [(x, y, kind) for x in range(wide) for y in range(tall) for columns, kind in fitting[y] if x < columns]

    def cells_of_lines(self):
        """A dict from all lines, sorted, to the sorted lists of their cells, if the lines are not too many."""
        entries = {kind: self._piece[kind].entries() for kind in self._rooms}
        return {(x, y, kind): [(x + across, y + up, name) for across, up, name in entries[kind]]
                for x, y, kind in self.all_lines()}

    def numbers_of_lines(self):
        """A dict from all lines, sorted, to the numbers of their cells among all cells; likewise."""
        steps = {kind: [self._number_of_cell(entry) for entry in self._piece[kind].entries()] for kind in self._rooms}
        many = len(self._piece.names())
        return {(x, y, kind): [(x * self._tall + y) * many + step for step in steps[kind]]
                for x, y, kind in self.all_lines()}

    def all_cells(self):
        """The sorted list of all cells, if they are not too many."""
        if self.cells > MOST_LISTED_CELLS:
            raise TooMany("cells", MOST_LISTED_CELLS)
        return [(x, y, name) for x in range(self._wide) for y in range(self._tall) for name in self._piece.names()]

    def _number_of_cell(self, cell):
        """The number of a cell among all cells, sorted."""
        x, y, name = cell
        names = self._piece.names()
        return (x * self._tall + y) * len(names) + names.index(name)

    def _column_terms(self):
        """The terms of the columns, a term for each kind."""
        return list(self._rooms.values())

    def _row_terms(self, x):
        """The terms of the rows of one column, a term for each kind that has lines there."""
        return [(rows, 1) for columns, rows in self._rooms.values() if x < columns]

    def _kinds_at(self, x, y):
        """The sorted list of the kinds that have a line at x and y."""
        return [kind for kind, room in self._rooms.items() if x < room[0] and y < room[1]]

    def __contains__(self, x):
        if not isinstance(x, tuple) or len(x) != 3:
            return False
        column, row, name = x
        if not is_count(column) or not is_count(row):
            return False
        return column < self._wide and row < self._tall and name in self._piece.names()

    def __getitem__(self, at):
        if not is_count(at) or at >= self.lines:
            raise UnknownLine(at)
        terms = self._column_terms()
        x = place_of(at, terms)
        rest = at - ahead_of(x, terms)
        terms = self._row_terms(x)
        y = place_of(rest, terms)
        return x, y, self._kinds_at(x, y)[rest - ahead_of(y, terms)]

    def __iter__(self):
        raise TypeError("a box is not iterated over")

    def __le__(self, other):
        """Whether this box is in other."""
        if not isinstance(other, Box):
            return NotImplemented
        return self._piece == other._piece and self._wide <= other._wide and self._tall <= other._tall

    def __ge__(self, other):
        """Whether other is in this box."""
        if not isinstance(other, Box):
            return NotImplemented
        return self._piece == other._piece and self._wide >= other._wide and self._tall >= other._tall

    def __eq__(self, other):
        return (isinstance(other, Box) and self._piece == other._piece
                and self._wide == other._wide and self._tall == other._tall)

    def __repr__(self):
        return f"Box({self._piece!r}, {self._wide}, {self._tall})"
