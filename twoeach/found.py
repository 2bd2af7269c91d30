"""Right plans of flat pieces that are found, or ranks that refuse them from a length on."""

from twoeach.basics import is_count
from twoeach.checks import check_length_size
from twoeach.graphs import longest_walks, shortest_ring, steps_among
from twoeach.plans import Plan
from twoeach.sorting import in_order
from twoeach.windows import START, Window


def ring_of(window):
    """A shortest ring of steps, a list of codes; None if there is none."""
    ahead = steps_among(window)
    ends = longest_walks(ahead)
    codes = [code for code in ahead if code not in ends and code[0] == window.columns]
    return None if len(codes) == 0 else shortest_ring(ahead, codes)


def longest_served(piece):
    """The longest served length; None if there is a right plan."""
    return longest_walks(steps_among(Window(piece))).get(START)


def least_period(piece):
    """The least period of a right plan; None if there is none."""
    ring = ring_of(Window(piece))
    return None if ring is None else len(ring)


def new_partners(window, names, column, pairs, period):
    """The partners by the pairs of positions that a step with a new column makes."""
    partners = {}
    for one, other in window.pairs_of(pairs):
        if other // window.places == window.columns:
            difference = window.columns - one // window.places
            left, right = names[one % window.places], names[other % window.places]
            partners[(column - difference) % period, left] = (difference, right)
            partners[column, right] = (-difference, left)
    return partners


def plan_for(piece):
    """A right plan with the least period; None if there is none."""
    window = Window(piece)
    ring = ring_of(window)
    if ring is None:
        return None
    partners = {}
    for column, code in enumerate(ring):
        pairs = window.steps_from(code)[ring[(column + 1) % len(ring)]]
        new = new_partners(window, piece.names(), column, pairs, len(ring))
        for at, partner in new.items():
            partners[at] = partner
    return Plan(len(ring), partners)


def ranks(piece):
    """Ranks of a piece, a dict from states to counts; None if there are none."""
    window = Window(piece)
    ends = longest_walks(steps_among(window))
    if START not in ends:
        return None
    found = {window.state_of(code): many for code, many in ends.items()}
    return {state: found[state] for state in in_order(list(found))}


def is_ranks(piece, value):
    """Whether any value is ranks of a piece."""
    return are_ranks(Window(piece), value)


def are_ranks(window, value):
    """Whether any value is ranks of the piece of a window."""
    if not isinstance(value, dict) or not all([window.is_state(state) for state in value]):
        return False
    if () not in value or not all([is_count(rank) for rank in value.values()]):
        return False
    ranked = {window.code_of(state): rank for state, rank in value.items()}
    return all([leads_down(window, ranked, code) for code in ranked])


def leads_down(window, ranked, code):
    """Whether each step from a code leads to a code with a lesser rank."""
    return all([other in ranked and ranked[other] < ranked[code] for other in window.steps_from(code)])


def refuses(piece, value, length):
    """Whether any value is ranks of a piece that refuse boxes of a length."""
    window = Window(piece)
    check_length_size(length)
    return are_ranks(window, value) and value[()] < length
