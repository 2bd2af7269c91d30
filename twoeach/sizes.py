"""What holds for boxes of all sizes: crowded sets, boxes of one height and all lengths, and strikes."""

from twoeach.boxes import Box
from twoeach.checks import check_height, check_set
from twoeach.choices import how_many_names, lack_of, wants_of
from twoeach.errors import TooMany
from twoeach.matching import get_shares, is_met
from twoeach.sorting import in_order

MOST_LINES = 600


def subsets(things):
    """All lists of some of the things, in the sequence of these."""
    out = [[]]
    for thing in things:
        out = out + [[*some, thing] for some in out]
    return out


def crowds(box, kinds):
    """Whether a set of kinds is crowded at the sizes of a box."""
    lines = sum([box.lines_of(kind) for kind in kinds])
    return 2 * lines > how_many_names(box.piece, kinds) * box.wide * box.tall


def is_crowded(piece, kinds, wide, tall):
    """Whether a set of kinds is crowded at two sizes."""
    check_set(piece, kinds)
    return crowds(Box(piece, wide, tall), kinds)


def crowded_sets(piece, wide, tall):
    """The sorted list of all sets, as sorted lists, that are crowded at two sizes."""
    box = Box(piece, wide, tall)
    return in_order([kinds for kinds in subsets(piece.kinds()) if crowds(box, kinds)])


def square(piece, kinds):
    """The least size at which a set is crowded, both ways; None if it is not poor."""
    check_set(piece, kinds)
    if lack_of(piece, kinds) <= 0:
        return None
    size = 1
    while not crowds(Box.square(piece, size), kinds):
        size += 1
    return size


def wants_of_rows(piece, height):
    """A dict from the tuples (y, kind) that fit into a height to the different tuples (y + up, name)."""
    fitting = [(y, kind) for kind in piece.kinds() for y in range(max(0, height - piece[kind].reach[1]))]
    return {(y, kind): list({(y + up, name): True for _, up, name in piece[kind].entries()}) for y, kind in fitting}


def always_paired(piece, height):
    """Whether the boxes of a height are paired at all lengths."""
    check_height(height)
    return is_met(wants_of_rows(piece, height))


def last_lines(box):
    """The lines of a box that do not belong to the box that is one shorter."""
    lines = [(box.wide - 1 - box.piece[kind].reach[0], y, kind) for kind in box.piece.kinds() for y in range(box.tall)]
    return [line for line in lines if box.is_line(line)]


def longest(piece, height):
    """The longest paired length of the boxes of a height; None if all are paired."""
    if always_paired(piece, height):
        return None
    wants = {}
    had = {}
    length = 0
    paired = True
    while paired:
        box = Box(piece, length + 1, height)
        if box.lines > MOST_LINES:
            raise TooMany("lines", MOST_LINES)
        lines = last_lines(box)
        for line in lines:
            wants[line] = box.cells_of(line)
        paired = get_shares(wants, had, lines)
        length += 1
    return length - 1


def has_within(size, others):
    """Whether a box of a size (wide, tall) has one of the other sizes in it."""
    return any([other != size and other[0] <= size[0] and other[1] <= size[1] for other in others])


def stairs(piece):
    """The sorted list of the sizes (wide, tall), of heights 1 to 3, of the least boxes that are not paired."""
    found = [(longest(piece, height), height) for height in (1, 2, 3)]
    least = [(length + 1, height) for length, height in found if length is not None]
    return in_order([size for size in least if not has_within(size, least)])


def least_strikes(piece):
    """The sorted list of the strikes with the fewest names, each a sorted list."""
    strikes = [names for names in subsets(piece.names()) if is_met(wants_of(piece.struck(names)))]
    fewest = min([len(names) for names in strikes])
    return in_order([names for names in strikes if len(names) == fewest])
