"""Plans on boxes of flat pieces: each row of a box has the partners of the plan, as far as they belong to the box."""

from twoeach.checks import check_cell, check_flat, check_line
from twoeach.choices import is_choice
from twoeach.errors import InvalidChoice
from twoeach.marking import check_list_of_marks, mark_answer, mark_at
from twoeach.plans import Plan


def partners_of_choice(choice):
    """The partners by which the two chosen entries of each kind of a flat piece are partners."""
    partners = {}
    for one, other in choice.values():
        partners[0, one[2]] = (other[0] - one[0], other[2])
        partners[0, other[2]] = (one[0] - other[0], one[2])
    return partners


def plan_of_choice(piece, choice):
    """The plan of period 1 by which the two chosen entries of each kind are partners."""
    if not is_choice(piece, choice):
        raise InvalidChoice(choice)
    check_flat(piece)
    return Plan(1, partners_of_choice(choice))


def partner_cell(plan, cell):
    """The cell of the same row that is the partner of a cell, in a box or not; None if it has none."""
    x, y, name = cell
    partner = plan(x, name)
    if partner is None:
        return None
    column, other = partner
    return column, y, other


def pairs_in(plan, box, line):
    """The sorted list of the sorted tuples of two cells of a line that are partners."""
    check_line(box, line)
    check_flat(box.piece)
    cells = box.cells_of(line)
    partners = [partner_cell(plan, cell) for cell in cells]
    return [(one, partners[at]) for at, one in enumerate(cells) if partners[at] in cells[at + 1:]]


def first_unserved(plan, box):
    """The least line of a box that has no two cells that are partners; None if there is none."""
    # What is not served at a column is not served a period ahead of it, and rows are alike.
    for x, kind in plan.unserved(box.piece):
        if box.is_line((x, 0, kind)):
            return x, 0, kind
    return None


def partner_in(plan, box, cell):
    """The partner of a cell of a box, if it is a cell of the box; None otherwise."""
    check_cell(box, cell)
    check_flat(box.piece)
    partner = partner_cell(plan, cell)
    return partner if partner in box else None


def led_by(plan, box, marks):
    """What the second one marks behind each mark of the first one, a list of cells and None."""
    check_list_of_marks(marks)
    check_flat(box.piece)
    marked = {}
    out = []
    for position, cell in enumerate(marks):
        mark_at(box, marked, position, cell)
        out.append(mark_answer(marked, partner_in(plan, box, cell)))
    return out
