"""Weights of lines: the second one keeps them small by marking the cell that takes most."""

from twoeach.boxes import Box
from twoeach.checks import check_cell, check_kind, check_size
from twoeach.errors import Marked
from twoeach.marking import check_marks
from twoeach.sorting import in_order

WHOLE = 64
HALF = 32


def line_weight(box, kind):
    """The weight of one line of a kind of a box."""
    check_kind(box.piece, kind)
    return WHOLE >> len(box.piece[kind])


def weight(box):
    """The weight of a box."""
    return sum([box.lines_of(kind) * line_weight(box, kind) for kind in box.piece.kinds()])


def is_halved(box):
    """Whether the weight of a box is less than half of that of a whole line."""
    return weight(box) < HALF


def halved_length(piece, tall):
    """The greatest length with which the box of a height is halved; None if those of all lengths are."""
    check_size(tall)
    if all([piece[kind].reach[1] >= tall for kind in piece.kinds()]):
        return None
    length = 0
    while is_halved(Box(piece, length + 1, tall)):
        length += 1
    return length


def weight_with(cells, first, second):
    """The weight of a line of cells when the first and the second one have marked cells."""
    if any([cell in second for cell in cells]):
        return 0
    return WHOLE >> len([cell for cell in cells if cell not in first])


class Stand:
    """A box with marks of the first and of the second one; it never changes."""

    def __init__(self, box, first=(), second=()):
        check_marks(box, first, {})
        own = {cell: True for cell in in_order(first)}
        check_marks(box, second, own)
        others = {cell: True for cell in in_order(second)}
        self._cells = box.cells_of_lines()
        self._weights = {line: weight_with(cells, own, others) for line, cells in self._cells.items()}
        self._box = box
        self._first = own
        self._second = others

    @property
    def box(self):
        """The box that is marked."""
        return self._box

    @property
    def weight(self):
        """The sum of the weights of all lines."""
        return sum([int(many) for many in self._weights.values()])

    @property
    def whole(self):
        """The sorted list of the lines that the first one has whole."""
        return [line for line in self._weights if self._weights[line] == WHOLE]

    def first(self):
        """The sorted list of the cells that the first one has marked."""
        return list(self._first)

    def second(self):
        """The sorted list of the cells that the second one has marked."""
        return list(self._second)

    def weight_of(self, cell):
        """The sum of the weights of the lines that a cell belongs to; 0 if it is marked."""
        check_cell(self._box, cell)
        if self._is_marked(cell):
            return 0
        return sum([self._weights[line] for line in self._box.lines_at(cell)])

    def most(self):
        """The least of the free cells with the greatest weight; None if none is free."""
        free = [cell for cell in self._box.all_cells() if not self._is_marked(cell)]
        sums = {cell: 0 for cell in free}
        for line, cells in self._cells.items():
            for cell in cells:
                if cell in sums:
                    sums[cell] += self._weights[line]
        greatest = max([int(many) for many in sums.values()], default=0)
        best = [cell for cell in free if sums[cell] == greatest]
        return best[0] if len(best) > 0 else None

    def _is_marked(self, cell):
        """Whether one of both has marked a cell."""
        return cell in self._first or cell in self._second

    def _check_free(self, cell):
        """Raises an error unless a cell of the box that is free."""
        check_cell(self._box, cell)
        if self._is_marked(cell):
            raise Marked(cell)

    def __add__(self, other):
        """The stand with one more mark of the first one."""
        self._check_free(other)
        return Stand(self._box, self.first() + [other], self.second())

    def __sub__(self, other):
        """The stand with one more mark of the second one."""
        self._check_free(other)
        return Stand(self._box, self.first(), self.second() + [other])

    def __eq__(self, other):
        return (isinstance(other, Stand) and self._box == other._box
                and self._first == other._first and self._second == other._second)
