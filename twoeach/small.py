"""Boxes of few cells, gone through: whether the first one gets a line, how the race ends, and strategies for both.

Inside this file marked cells are told by sums of bits, a bit for each cell of the box, the least cell first.
"""

from twoeach.bits import bits_in
from twoeach.errors import TooMany
from twoeach.sorting import in_order, is_ascending

MOST_CELLS = 8
FIRST_WINS = 1
NOBODY_WINS = 0
SECOND_WINS = -1


def is_first_moving(first, second):
    """Whether the first one moves when these cells are marked."""
    return len(bits_in(first)) == len(bits_in(second))


def is_position(box, value):
    """Whether any value is a tuple of two sorted tuples of cells of a box, no cell twice in both together."""
    if not isinstance(value, tuple) or len(value) != 2 or not all([isinstance(cells, tuple) for cells in value]):
        return False
    first, second = value
    if not all([cell in box for cell in first + second]):
        return False
    return is_ascending(first) and is_ascending(second) and not any([cell in second for cell in first])


class Small:
    """A box of at most eight cells; in a race the second one can win, too."""

    def __init__(self, box, racing):
        if box.cells > MOST_CELLS:
            raise TooMany("cells", MOST_CELLS)
        self._box = box
        self._racing = racing
        self._cells = box.all_cells()
        self._bits = {cell: 1 << at for at, cell in enumerate(self._cells)}
        self._lines = [self._sum_of(box.cells_of(line)) for line in box.all_lines()]
        self._ends = {}

    def end(self, first, second):
        """How it ends if both play as well as they can."""
        if (first, second) not in self._ends:
            self._ends[first, second] = self._end(first, second)
        return self._ends[first, second]

    def line_strategy(self):
        """A strategy of the first one that gets a line; None if there is none."""
        return self._strategy([(0, 0)], FIRST_WINS)

    def spoil_strategy(self):
        """A strategy of the second one that spoils; None if there is none."""
        return self._strategy([(bit, 0) for bit in self._free(0, 0)], NOBODY_WINS)

    def gets_line(self, value):
        """Whether any value is a strategy of the first one that gets a line."""
        if not isinstance(value, dict):
            return False
        moves = self._moves(value)
        rows = [(0, 0)]
        while len(rows) > 0:
            first, second = rows.pop()
            move = moves.get((first, second))
            if move not in self._free(first, second):
                return False
            if not self._has_line(first | move):
                left = self._free(first | move, second)
                if len(left) == 0:
                    return False
                rows.extend([(first | move, second | bit) for bit in left])
        return True

    def spoils(self, value):
        """Whether any value is a strategy of the second one that spoils."""
        if not isinstance(value, dict):
            return False
        moves = self._moves(value)
        rows = [(bit, 0) for bit in self._free(0, 0)]
        while len(rows) > 0:
            first, second = rows.pop()
            if self._has_line(first):
                return False
            free = self._free(first, second)
            if len(free) > 0:
                move = moves.get((first, second))
                if move not in free:
                    return False
                rows.extend([(first | bit, second | move) for bit in self._free(first, second | move)])
        return True

    def _sum_of(self, cells):
        """The sum of the bits of different cells."""
        return sum([self._bits[cell] for cell in cells])

    def _cells_of(self, some):
        """The sorted tuple of the cells of a sum of bits."""
        return tuple([cell for cell in self._cells if some & self._bits[cell] != 0])

    def _free(self, first, second):
        """The list of the bits of the cells that no one has marked."""
        return [bit for bit in self._bits.values() if (first | second) & bit == 0]

    def _has_line(self, some):
        """Whether all cells of some line are among those of a sum."""
        return any([some & line == line for line in self._lines])

    def _end(self, first, second):
        """How it ends, reckoned from all ends behind the next mark."""
        if self._has_line(first):
            return FIRST_WINS
        if self._racing and self._has_line(second):
            return SECOND_WINS
        free = self._free(first, second)
        if len(free) == 0:
            return NOBODY_WINS
        if is_first_moving(first, second):
            return max([int(self.end(first | bit, second)) for bit in free])
        return min([int(self.end(first, second | bit)) for bit in free])

    def _marked(self, first, second, bit):
        """What is marked behind one more mark of whoever moves."""
        return (first | bit, second) if is_first_moving(first, second) else (first, second | bit)

    def _strategy(self, starts, wanted):
        """A strategy of who moves at the starts, by which it ends as it is wanted; None if there is none."""
        if self.end(0, 0) != wanted:
            return None
        found = {}
        rows = list(starts)
        while len(rows) > 0:
            row = rows.pop()
            free = self._free(row[0], row[1])
            if row not in found and len(free) > 0:
                found[row] = [bit for bit in free if self._ends_so(row, bit, wanted)][0]
                first, second = self._marked(row[0], row[1], found[row])
                if not self._has_line(first):
                    rows.extend([self._marked(first, second, bit) for bit in self._free(first, second)])
        return self._told(found)

    def _ends_so(self, row, bit, wanted):
        """Whether it ends as it is wanted behind a mark."""
        first, second = self._marked(row[0], row[1], bit)
        return self.end(first, second) == wanted

    def _told(self, found):
        """A strategy that is told by sums of bits, as a dict from sorted positions to cells."""
        cells = {(self._cells_of(first), self._cells_of(second)): self._cells_of(bit)[0]
                 for (first, second), bit in found.items()}
        return {position: cells[position] for position in in_order(list(cells))}

    def _moves(self, value):
        """A strategy told by sums of bits, without all that are no positions, or no cells of the box."""
        return {(self._sum_of(key[0]), self._sum_of(key[1])): self._bits[cell] for key, cell in value.items()
                if is_position(self._box, key) and cell in self._box}


def spoiling(box):
    """Whether the first one gets a line ("line") or the second one can spoil every line ("spoilt")."""
    return "line" if Small(box, False).end(0, 0) == FIRST_WINS else "spoilt"


def race(box):
    """Who wins the race if both play as well as they can: "first", "second" or "nobody"."""
    end = Small(box, True).end(0, 0)
    if end == NOBODY_WINS:
        return "nobody"
    return "first" if end == FIRST_WINS else "second"


def line_strategy(box):
    """A strategy of the first one that gets a line, a dict; None if there is none."""
    return Small(box, False).line_strategy()


def spoil_strategy(box):
    """A strategy of the second one that spoils, a dict; None if there is none."""
    return Small(box, False).spoil_strategy()


def is_line_strategy(box, value):
    """Whether any value is a strategy of the first one that gets a line."""
    return Small(box, False).gets_line(value)


def is_spoil_strategy(box, value):
    """Whether any value is a strategy of the second one that spoils."""
    return Small(box, False).spoils(value)
