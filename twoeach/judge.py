"""Verdicts on boxes, and claims with papers that are checked by following them."""

from twoeach.basics import is_integer
from twoeach.boxes import MOST_LISTED_LINES, Box
from twoeach.checks import is_size
from twoeach.choices import is_choice, is_poor_set, is_set, least_choice, least_set
from twoeach.errors import InvalidClaim
from twoeach.found import longest_served, plan_for, ranks, refuses
from twoeach.owners import is_owners, is_poor_lot, least_lot, owners
from twoeach.pieces import Piece
from twoeach.plans import Plan
from twoeach.sizes import crowded_sets, crowds
from twoeach.small import MOST_CELLS, is_line_strategy, is_spoil_strategy, line_strategy, spoil_strategy
from twoeach.weights import is_halved, weight
from twoeach.windows import is_within_window


def verdict(box):
    """The first word that tells why the second one can spoil every line of a box; "open" if there is none."""
    if least_choice(box.piece) is not None:
        return "owned"
    if least_choice(box.piece.core()) is not None:
        return "core"
    if is_within_window(box.piece) and longest_served(box.piece) is None:
        return "served"
    return "halved" if is_halved(box) else "open"


def is_piece_claim(claim):
    """Whether a claim is about any piece."""
    return len(claim) == 2 and isinstance(claim[1], Piece)


def is_box_claim(claim):
    """Whether a claim is about any box."""
    return len(claim) == 2 and isinstance(claim[1], Box)


def is_lines_claim(claim):
    """Whether a claim is about a box of few lines."""
    return is_box_claim(claim) and claim[1].lines <= MOST_LISTED_LINES


def is_cells_claim(claim):
    """Whether a claim is about a box of few cells."""
    return is_box_claim(claim) and claim[1].cells <= MOST_CELLS


def is_flat_claim(claim):
    """Whether a claim is about a flat piece within the limit."""
    return is_piece_claim(claim) and is_within_window(claim[1])


def is_length_claim(claim):
    """Whether a claim is about a flat piece within the limit and a length."""
    return len(claim) == 3 and is_flat_claim(claim[:2]) and is_size(claim[2])


def paired_paper(claim):
    """A choice of the piece; None if there is none."""
    return least_choice(claim[1])


def poor_paper(claim):
    """A poor set of the piece; None if there is none."""
    kinds = least_set(claim[1])
    return kinds if is_poor_set(claim[1], kinds) else None


def owners_paper(claim):
    """Owners of the box; None if there are none."""
    return owners(claim[1])


def unpaired_paper(claim):
    """A lot of the box with a lack above 0; None if there is none."""
    lines = least_lot(claim[1])
    return lines if is_poor_lot(claim[1], lines) else None


def crowded_paper(claim):
    """A set of kinds that is crowded at the sizes of the box; None if there is none."""
    crowded = crowded_sets(claim[1].piece, claim[1].wide, claim[1].tall)
    return crowded[0] if len(crowded) > 0 else None


def served_paper(claim):
    """A right plan of the piece; None if there is none."""
    return plan_for(claim[1])


def unserved_paper(claim):
    """Ranks of the piece that refuse the length; None if there are none."""
    refusing = ranks(claim[1])
    return refusing if is_unserved(claim, refusing) else None


def halved_paper(claim):
    """The weight of the box; None if it is not halved."""
    return weight(claim[1]) if is_halved(claim[1]) else None


def line_paper(claim):
    """A strategy that gets a line; None if there is none."""
    return line_strategy(claim[1])


def spoilt_paper(claim):
    """A strategy that spoils; None if there is none."""
    return spoil_strategy(claim[1])


def is_paired_by(claim, value):
    """Whether any value is a choice of the piece."""
    return is_choice(claim[1], value)


def is_poor_by(claim, value):
    """Whether any value is a poor set of the piece."""
    return is_poor_set(claim[1], value)


def is_owned_by(claim, value):
    """Whether any value is owners of the box."""
    return is_owners(claim[1], value)


def is_unpaired_by(claim, value):
    """Whether any value is a lot of the box with a lack above 0."""
    return is_poor_lot(claim[1], value)


def is_crowded_by(claim, value):
    """Whether any value is a set of kinds that is crowded at the sizes of the box."""
    return is_set(claim[1].piece, value) and crowds(claim[1], value)


def is_served_by(claim, value):
    """Whether any value is a right plan of the piece."""
    return isinstance(value, Plan) and value.is_right(claim[1])


def is_unserved(claim, value):
    """Whether any value is ranks of the piece that refuse the length."""
    return refuses(claim[1], value, claim[2])


def is_halved_by(claim, value):
    """Whether any value is the weight of the box, which is halved."""
    return is_halved(claim[1]) and is_integer(value) and value == weight(claim[1])


def is_line_by(claim, value):
    """Whether any value is a strategy that gets a line."""
    return is_line_strategy(claim[1], value)


def is_spoilt_by(claim, value):
    """Whether any value is a strategy that spoils."""
    return is_spoil_strategy(claim[1], value)


FORMS = {
    "paired": is_piece_claim, "poor": is_piece_claim, "owners": is_lines_claim, "unpaired": is_lines_claim,
    "crowded": is_box_claim, "served": is_flat_claim, "unserved": is_length_claim, "halved": is_box_claim,
    "line": is_cells_claim, "spoilt": is_cells_claim}
PAPERS = {
    "paired": paired_paper, "poor": poor_paper, "owners": owners_paper, "unpaired": unpaired_paper,
    "crowded": crowded_paper, "served": served_paper, "unserved": unserved_paper, "halved": halved_paper,
    "line": line_paper, "spoilt": spoilt_paper}
CHECKS = {
    "paired": is_paired_by, "poor": is_poor_by, "owners": is_owned_by, "unpaired": is_unpaired_by,
    "crowded": is_crowded_by, "served": is_served_by, "unserved": is_unserved, "halved": is_halved_by,
    "line": is_line_by, "spoilt": is_spoilt_by}


def is_claim(value):
    """Whether any value is a claim."""
    if not isinstance(value, tuple) or len(value) == 0 or not isinstance(value[0], str) or value[0] not in FORMS:
        return False
    has_form = FORMS[value[0]]
    return has_form(value)


def check_claim(value):
    """Raises InvalidClaim unless a claim."""
    if not is_claim(value):
        raise InvalidClaim(value)


def certificate_of(claim):
    """A paper of a claim; None if it is not true."""
    check_claim(claim)
    paper_of = PAPERS[claim[0]]
    return paper_of(claim)


def is_certificate(claim, value):
    """Whether any value is a paper of a claim."""
    check_claim(claim)
    is_paper = CHECKS[claim[0]]
    return is_paper(claim, value)
