"""Answers at the cells of boxes of all sizes, read off a choice of the piece."""

from twoeach.checks import check_cell, check_line, check_same_piece
from twoeach.choices import is_choice
from twoeach.errors import InvalidChoice
from twoeach.marking import check_list_of_marks, mark_answer, mark_at
from twoeach.sorting import in_order


class Answers:
    """The answers by a choice of a piece; they never change."""

    def __init__(self, piece, choice):
        if not is_choice(piece, choice):
            raise InvalidChoice(choice)
        self._piece = piece
        self._choice = {kind: tuple(in_order(choice[kind])) for kind in piece.kinds()}
        self._chosen = {entry[2]: (kind, entry) for kind, pair in self._choice.items() for entry in pair}

    @property
    def piece(self):
        """The piece that the choice is one of."""
        return self._piece

    @property
    def choice(self):
        """The choice, a dict with sorted tuples."""
        return {kind: self._choice[kind] for kind in self._choice}

    def owner(self, box, cell):
        """The line of a box that owns a cell; None if there is none."""
        check_cell(box, cell)
        check_same_piece(self._piece, box)
        x, y, name = cell
        if name not in self._chosen:
            return None
        kind, entry = self._chosen[name]
        line = (x - entry[0], y - entry[1], kind)
        return line if box.is_line(line) else None

    def owned(self, box, line):
        """The sorted tuple of the two cells that a line of a box owns."""
        check_line(box, line)
        check_same_piece(self._piece, box)
        x, y, kind = line
        return tuple([(x + across, y + up, name) for across, up, name in self._choice[kind]])

    def led(self, box, marks):
        """What the second one marks behind each mark of the first one, a list of cells and None."""
        check_list_of_marks(marks)
        check_same_piece(self._piece, box)
        marked = {}
        out = []
        for position, cell in enumerate(marks):
            mark_at(box, marked, position, cell)
            out.append(mark_answer(marked, self(box, cell)))
        return out

    def __call__(self, box, cell):
        """The answer at a cell of a box; None if there is none."""
        line = self.owner(box, cell)
        if line is None:
            return None
        one, other = self.owned(box, line)
        return other if one == cell else one

    def __eq__(self, other):
        return isinstance(other, Answers) and self._piece == other._piece and self._choice == other._choice
