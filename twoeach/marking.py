"""Cells that are marked one after another, and what is wrong with lists of them."""

from twoeach.basics import is_list
from twoeach.errors import InvalidMarks


def check_list_of_marks(marks):
    """Raises InvalidMarks unless a list."""
    if not is_list(marks):
        raise InvalidMarks(None)


def check_marks(box, marks, taken):
    """Raises InvalidMarks unless a list of different cells of a box, none of which is taken."""
    check_list_of_marks(marks)
    ahead = {}
    for position, cell in enumerate(marks):
        if cell not in box or cell in ahead or cell in taken:
            raise InvalidMarks(position)
        ahead[cell] = True


def mark_at(box, marked, position, cell):
    """Marks one of the listed cells; raises InvalidMarks unless it is a cell of the box that is free."""
    if cell not in box or cell in marked:
        raise InvalidMarks(position)
    marked[cell] = True


def mark_answer(marked, answer):
    """Marks an answer if there is one that is free; what is marked, or None."""
    if answer is None or answer in marked:
        return None
    marked[answer] = True
    return answer
