"""What several test files use: refused calls, odd values, and pieces made by a fixed sequence."""

import itertools
import random
import unittest

from twoeach.kinds import Kind
from twoeach.pieces import Piece

FIRST = "abcdefghijklmnop"

# Values of many kinds, none of which is a size, a cell, a line, a kind's name or a list of such.
ODD = [
    None, True, False, 0, -1, 10 ** 31, "", "P", "p q", "p\n", "abcdefghi", b"p", object(), Piece, {"p"}, (), (0,),
    (0, 0), (0, 0, 0), (0, 0, None), (0, 0, "p", 0), ((0, 0), "p"), [0, 0, "p"], ["p"], {"p": 1}, {}, range(3),
    (None, 0, "p"), (0, "0", "p"), (-1, 0, "p"), (0, -1, "p"), (0, 0, "P"), (0, 0, ["p"]), ([0], 0, "p"),
]


class Case(unittest.TestCase):

    def refused(self, wanted, parts, action, *args, **names):
        """The call raises just this error with just these attributes, True and False told from 1 and 0."""
        try:
            got = action(*args, **names)
        except Exception as error:
            self.assertIs(error.__class__, wanted, (args, names))
            self.assertEqual(vars(error), parts, (args, names))
            self.assertEqual(repr(vars(error)), repr(parts), (args, names))
            return
        self.fail(f"{args} {names}: {got!r}")

    def same(self, one, other):
        """Equal, and of the same kinds inside."""
        self.assertEqual(one, other)
        self.assertEqual(repr(one), repr(other))


def row(*names):
    """The flat kind of these names, one beside the other."""
    return Kind(*[(across, 0, name) for across, name in enumerate(names)])


def made_kind(source, names, reach=1, most=4):
    places = [(across, up, name) for across in range(reach + 1) for up in range(reach + 1) for name in names]
    return Kind(*source.sample(places, source.randint(2, min(most, len(places)))))


def made_piece(source, names, kinds, reach=1, most=4, flat=False):
    """A piece with so many names and at most so many kinds."""
    own = list(FIRST[:names])
    found = {}
    for number in range(kinds):
        kind = made_kind(source, own, reach, most)
        if flat:
            rows = sorted({(across, 0, name) for across, _, name in kind.entries()})
            if len(rows) < 2:
                continue
            kind = Kind(*rows)
        if kind not in found.values():
            found[FIRST[15 - number]] = kind
    return Piece(own, found)


def made_pieces(seed, many, **limits):
    source = random.Random(seed)
    return [made_piece(source, **limits) for _ in range(many)]


def subsets(things):
    things = list(things)
    return [list(some) for many in range(len(things) + 1) for some in itertools.combinations(things, many)]
