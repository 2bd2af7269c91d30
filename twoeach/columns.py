"""States, steps and walks: how pairs of places serve the lines of flat boxes, column by column."""

from twoeach.basics import is_count, is_list
from twoeach.errors import InvalidLength, InvalidState
from twoeach.graphs import longest_walks, steps_among
from twoeach.sorting import in_order
from twoeach.windows import START, Window

MOST_LENGTH = 200


def useful_pairs(piece):
    """The sorted list of the tuples (difference, name, other name) of useful pairs."""
    window = Window(piece)
    names = piece.names()
    pairs = [(place + gap, names[place]) for place, gap in window.gaps]
    return in_order([(behind // len(names), name, names[behind % len(names)]) for behind, name in pairs])


def is_state(piece, value):
    """Whether any value is a state of a piece."""
    return Window(piece).is_state(value)


def steps(piece, state):
    """The sorted list of the states to which steps from a state lead."""
    window = Window(piece)
    if not window.is_state(state):
        raise InvalidState(state)
    return in_order([window.state_of(code) for code in window.steps_from(window.code_of(state))])


def is_walk(piece, value):
    """Whether any value is a walk of a piece."""
    window = Window(piece)
    if not is_list(value) or not all([window.is_state(state) for state in value]):
        return False
    codes = [window.code_of(state) for state in value]
    if len(codes) == 0 or codes[0] != START:
        return False
    once = {code: True for code in codes}
    steps_of = {code: window.steps_from(code) for code in once}
    return all([codes[at + 1] in steps_of[code] for at, code in enumerate(codes[:-1])])


def walk(piece, length):
    """A walk with so many steps, a list of states; None if there is none."""
    window = Window(piece)
    if not is_count(length) or length > MOST_LENGTH:
        raise InvalidLength(length)
    ahead = steps_among(window)
    ends = longest_walks(ahead)
    if ends.get(START, length) < length:
        return None
    codes = [START]
    for left in reversed(range(length)):
        codes.append([code for code in ahead[codes[-1]] if ends.get(code, left) >= left][0])
    return [window.state_of(code) for code in codes]
