"""Owners of one box, and the lots of its lines that are too poor to have owners."""

from twoeach.basics import is_list
from twoeach.checks import check_lines
from twoeach.matching import greatest_lacking, is_met, lacking, least_lacking, shares
from twoeach.sorting import in_order


def is_own(box, line, value):
    """Whether any value is a tuple of two cells of a line."""
    # True and False equal numbers, so whatever is sought among cells must be a cell itself.
    if not isinstance(value, tuple) or len(value) != 2 or not all([cell in box for cell in value]):
        return False
    cells = box.cells_of(line)
    return value[0] in cells and value[1] in cells


def lot_of_cells(box, lines):
    """The cells of some lines, each once, in any order."""
    return list({cell: True for line in lines for cell in box.cells_of(line)})


def is_paired(box):
    """Whether a box has owners."""
    return is_met(box.numbers_of_lines())


def owners(box):
    """Owners of a box, a dict; None if it is not paired."""
    numbers = box.numbers_of_lines()
    owned = shares(numbers)
    if owned is None:
        return None
    cells = box.cells_of_lines()
    return {line: tuple([cells[line][numbers[line].index(number)] for number in owned[line]]) for line in owned}


def is_owners(box, value):
    """Whether any value is owners of a box."""
    lines = box.all_lines()
    if not isinstance(value, dict) or len(value) != len(lines) or not all([box.is_line(line) for line in value]):
        return False
    if not all([is_own(box, line, cells) for line, cells in value.items()]):
        return False
    owned = [cell for cells in value.values() for cell in cells]
    return len(set(owned)) == len(owned)


def lot_cells(box, lines):
    """The sorted list of the cells of a lot."""
    check_lines(box, lines)
    return in_order(lot_of_cells(box, lines))


def lot_lack(box, lines):
    """Twice the number of the lines of a lot less the number of its cells."""
    check_lines(box, lines)
    return 2 * len(lines) - len(lot_of_cells(box, lines))


def greatest_lack(box):
    """The greatest lack of all lots of a box."""
    return lacking(box.numbers_of_lines())


def least_lot(box):
    """The least lot with the greatest lack, a sorted list."""
    return least_lacking(box.numbers_of_lines())


def greatest_lot(box):
    """The greatest lot with the greatest lack, a sorted list."""
    return greatest_lacking(box.numbers_of_lines())


def is_different_lines(box, value):
    """Whether any value is a list of different lines of a box."""
    if not is_list(value) or not all([box.is_line(line) for line in value]):
        return False
    return len(set(value)) == len(value)


def is_poor_lot(box, value):
    """Whether any value is a list of different lines with a lack above 0."""
    box.all_lines()
    return is_different_lines(box, value) and lot_lack(box, value) > 0
