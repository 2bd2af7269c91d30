"""What holds for boxes of all sizes: crowded sets, boxes of one height and all lengths, and strikes."""

from twoeach.bits import bits_in, joined
from twoeach.boxes import Box
from twoeach.checks import check_height, check_set
from twoeach.choices import how_many_names, lack_of
from twoeach.errors import TooMany
from twoeach.matching import get_shares, is_met
from twoeach.sorting import in_order

MOST_LINES = 600


def subsets(things):
    """All lists of some of the things, in the sequence of these."""
    out = [[]]
    for thing in things:
        out = out + [[*some, thing] for some in out]
    return out


def crowds(box, kinds):
    """Whether a set of kinds is crowded at the sizes of a box."""
    lines = sum([box.lines_of(kind) for kind in kinds])
    return 2 * lines > how_many_names(box.piece, kinds) * box.wide * box.tall


def is_crowded(piece, kinds, wide, tall):
    """Whether a set of kinds is crowded at two sizes."""
    check_set(piece, kinds)
    return crowds(Box(piece, wide, tall), kinds)


def crowded_sets(piece, wide, tall):
    """The sorted list of all sets, as sorted lists, that are crowded at two sizes."""
    box = Box(piece, wide, tall)
    return in_order([kinds for kinds in subsets(piece.kinds()) if crowds(box, kinds)])


def square(piece, kinds):
    """The least size at which a set is crowded, both ways; None if it is not poor."""
    check_set(piece, kinds)
    if lack_of(piece, kinds) <= 0:
        return None
    size = 1
    while not crowds(Box.square(piece, size), kinds):
        size += 1
    return size


def wants_of_rows(piece, height):
    """A dict from the tuples (y, kind) that fit into a height to the different tuples (y + up, name)."""
    fitting = [(y, kind) for kind in piece.kinds() for y in range(max(0, height - piece[kind].reach[1]))]
    return {(y, kind): list({(y + up, name): True for _, up, name in piece[kind].entries()}) for y, kind in fitting}


def always_paired(piece, height):
    """Whether the boxes of a height are paired at all lengths."""
    check_height(height)
    return is_met(wants_of_rows(piece, height))


def rows_of(piece, height):
    """All lines that begin at the first column of a box of a height, a list of tuples (columns, numbers).

    These are how many columns the line takes, and the numbers of its cells among all cells of the box. Of a line that
    begins farther to the right, each number is greater by the cells of the columns ahead.
    """
    names = piece.names()
    rows = []
    for kind in piece.kinds():
        across_most, up_most = piece[kind].reach
        steps = [(across * height + up) * len(names) + names.index(name) for across, up, name in piece[kind].entries()]
        for y in range(height - up_most):
            rows.append((across_most + 1, [step + y * len(names) for step in steps]))
    return rows


def longest(piece, height):
    """The longest paired length of the boxes of a height; None if all are paired."""
    if always_paired(piece, height):
        return None
    rows = rows_of(piece, height)
    column = height * len(piece.names())
    wants = {}
    had = {}
    length = 0
    paired = True
    while paired:
        length += 1
        lines = [[(length - columns) * column + number for number in numbers]
                 for columns, numbers in rows if columns <= length]
        if len(wants) + len(lines) > MOST_LINES:
            raise TooMany("lines", MOST_LINES)
        new = {len(wants) + at: cells for at, cells in enumerate(lines)}
        for line, cells in new.items():
            wants[line] = cells
        paired = get_shares(wants, had, list(new))
    return length - 1


def has_within(size, others):
    """Whether a box of a size (wide, tall) has one of the other sizes in it."""
    return any([other != size and other[0] <= size[0] and other[1] <= size[1] for other in others])


def stairs(piece):
    """The sorted list of the sizes (wide, tall), of heights 1 to 3, of the least boxes that are not paired."""
    found = [(longest(piece, height), height) for height in (1, 2, 3)]
    least = [(length + 1, height) for length, height in found if length is not None]
    return in_order([size for size in least if not has_within(size, least)])


def names_of_sets(piece):
    """A list of the sums of the bits of all names in sets of kinds, told by sums of bits; a kind's bit by its place."""
    bits = {name: 1 << at for at, name in enumerate(piece.names())}
    sums = [0]
    for kind in piece.kinds():
        own = joined([bits[name] for _, _, name in piece[kind].entries()])
        sums = sums + [some | own for some in sums]
    return sums


def paired_sets(piece):
    """A list that tells of all sets of kinds, told by sums of bits, whether the piece of these kinds is paired."""
    paired = []
    for some, names in enumerate(names_of_sets(piece)):
        kinds = bits_in(some)
        # A piece is paired exactly if no set is poor: not all its kinds, nor any without one of them.
        paired.append(2 * len(kinds) <= len(bits_in(names)) and all([paired[some - kind] for kind in kinds]))
    return paired


def kinds_with_names(piece):
    """A dict from the names that some kind has, sorted, to the sums of the bits of the kinds that have them."""
    kinds = {name: 0 for name in piece.names()}
    for at, kind in enumerate(piece.kinds()):
        for _, _, name in piece[kind].entries():
            kinds[name] |= 1 << at
    return {name: kinds[name] for name in kinds if kinds[name] != 0}


def longer_strikes(strikes, kinds):
    """All sorted lists with one name more, that strikes more: tuples of the names and the bits of the kinds struck."""
    return [([*names, name], struck | more) for names, struck in strikes for name, more in kinds.items()
            if struck | more != struck and (len(names) == 0 or names[-1] < name)]


def least_strikes(piece):
    """The sorted list of the strikes with the fewest names, each a sorted list."""
    paired = paired_sets(piece)
    kinds = kinds_with_names(piece)
    strikes = [([], 0)]
    found = []
    # If a name strikes nothing that those ahead of it do not strike, there is a strike with fewer names.
    while len(found) == 0:
        found = [names for names, struck in strikes if paired[len(paired) - 1 - struck]]
        strikes = longer_strikes(strikes, kinds)
    return found
