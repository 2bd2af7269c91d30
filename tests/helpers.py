"""What several test files use: refused calls, odd values, and pieces made by a fixed sequence."""

import itertools
import random
import unittest

from twoeach.kinds import Kind
from twoeach.pieces import Piece

FIRST = "abcdefghijklmnop"

# Values of many kinds, none of which is a size, a cell, a line, a kind's name or a list of such.
ODD = [
    None, True, False, 0, -1, 10 ** 31, "", "P", "p q", "p\n", "abcdefghi", b"p", object(), Piece, {"p"}, (), (0,),
    (0, 0), (0, 0, 0), (0, 0, None), (0, 0, "p", 0), ((0, 0), "p"), [0, 0, "p"], ["p"], {"p": 1}, {}, range(3),
    (None, 0, "p"), (0, "0", "p"), (-1, 0, "p"), (0, -1, "p"), (0, 0, "P"), (0, 0, ["p"]), ([0], 0, "p"),
]


class Case(unittest.TestCase):

    def refused(self, wanted, parts, action, *args, **names):
        """The call raises just this error with just these attributes, True and False told from 1 and 0."""
        try:
            got = action(*args, **names)
        except Exception as error:
            self.assertIs(error.__class__, wanted, (args, names))
            self.assertEqual(vars(error), parts, (args, names))
            self.assertEqual(repr(vars(error)), repr(parts), (args, names))
            return
        self.fail(f"{args} {names}: {got!r}")

    def same(self, one, other):
        """Equal, and of the same kinds inside."""
        self.assertEqual(one, other)
        self.assertEqual(repr(one), repr(other))


def row(*names):
    """The flat kind of these names, one beside the other."""
    return Kind(*[(across, 0, name) for across, name in enumerate(names)])


def made_kind(source, names, reach=1, most=4):
    places = [(across, up, name) for across in range(reach + 1) for up in range(reach + 1) for name in names]
    return Kind(*source.sample(places, source.randint(2, min(most, len(places)))))


def made_piece(source, names, kinds, reach=1, most=4, flat=False):
    """A piece with so many names and at most so many kinds."""
    own = list(FIRST[:names])
    found = {}
    for number in range(kinds):
        kind = made_kind(source, own, reach, most)
        if flat:
            rows = sorted({(across, 0, name) for across, _, name in kind.entries()})
            if len(rows) < 2:
                continue
            kind = Kind(*rows)
        if kind not in found.values():
            found[FIRST[15 - number]] = kind
    return Piece(own, found)


def made_pieces(seed, many, **limits):
    source = random.Random(seed)
    return [made_piece(source, **limits) for _ in range(many)]


def subsets(things):
    things = list(things)
    return [list(some) for many in range(len(things) + 1) for some in itertools.combinations(things, many)]


FAR = 10 ** 30
BIG = 123456789012345678901234567890


def flat_kind(words):
    """The flat kind of entries that are written as across and name, such as "0a 1b"."""
    return Kind(*[(int(word[0]), 0, word[1:]) for word in words.split()])


def flat_piece(names, **kinds):
    """A flat piece of names of one letter and of kinds as flat_kind takes them."""
    return Piece(list(names), {name: flat_kind(words) for name, words in kinds.items()})


def is_served(lines):
    """Whether each of some lists of cells contains a pair of disjoint pairs, by trying all pairs."""

    def fits(rest, used):
        open_lines = [line for line in rest if not any(set(pair) <= set(line) for pair in used)]
        if not open_lines:
            return True
        taken = {cell for pair in used for cell in pair}
        free = [cell for cell in open_lines[0] if cell not in taken]
        return any(fits(open_lines[1:], used + [pair]) for pair in itertools.combinations(free, 2))

    return fits(list(lines), [])


def small_flat_pieces():
    """Flat pieces with at most eight cells in a line's way: some with a right plan, of several periods, and some without."""
    return [Piece(["p"]), Piece(list("abcdefgh")), flat_piece("a", k="0a 1a"), flat_piece("a", k="0a 1a 2a"),
            flat_piece("a", k="0a 2a 3a"), flat_piece("a", k="0a 3a"), flat_piece("a", k="0a 1a 2a", l="0a 1a 3a"),
            flat_piece("pq", r="0p 1q"), flat_piece("ab", u="0b 2a 2b 3a", v="0a 1a 2a 3a"),
            flat_piece("ab", k="0a 0b", l="0a 0b 1a"), flat_piece("ab", u="0b 1b 2b 3b", v="0a 0b 2b 3a"),
            flat_piece("abcd", u="0c 1a 1b", v="0a 1b 1d", w="0a 0c 0d"), flat_piece("abcdefgh", k="0a 0b", l="0a 0c"),
            flat_piece("abcdefgh", k="0a 0b 0c", l="0a 0d 0e", m="0b 0f 0g 0h"),
            *made_pieces(81, 12, names=1, kinds=3, reach=3, most=4, flat=True),
            *made_pieces(82, 20, names=2, kinds=3, reach=2, most=5, flat=True),
            *made_pieces(83, 20, names=2, kinds=4, reach=3, most=5, flat=True),
            *made_pieces(84, 12, names=3, kinds=3, reach=1, most=4, flat=True),
            *made_pieces(85, 12, names=4, kinds=3, reach=1, most=5, flat=True)]
