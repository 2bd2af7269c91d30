import inspect
import itertools
import random
import sys
import time
import unittest

from helpers import FIRST, ODD, Case, made_pieces, row, subsets
from twoeach import sizes as module
from twoeach.boxes import Box
from twoeach.choices import least_choice
from twoeach.errors import InvalidHeight, InvalidSet, InvalidSize, TooMany
from twoeach.kinds import Kind
from twoeach.owners import is_paired
from twoeach.pieces import Piece
from twoeach.sizes import always_paired, crowded_sets, is_crowded, least_strikes, longest, square, stairs

FAR = 10 ** 30
RIGHT, TALL = row("p", "q"), Kind((0, 0, "p"), (0, 1, "p"))
PAIRED = Piece(["p", "q"], {"r": RIGHT})
POOR = Piece(["p", "q"], {"r": RIGHT, "t": TALL})
ONE = Piece(["a"], {"k": row("a", "a")})
NONE = Piece(["p", "q"])
NO_SIZES = [None, True, False, 0, -1, FAR + 1, "", "1", [1], (1,), {}, object(), PAIRED]
NO_HEIGHTS = [None, True, False, 0, 4, -1, FAR, "", "1", [1], (1,), {}, object(), PAIRED]


def written(names, **kinds):
    """A piece of which each entry is written as across, up and name in three characters."""
    return Piece(list(names), {kind: Kind(*[(int(word[0]), int(word[1]), word[2]) for word in words.split()])
                               for kind, words in kinds.items()})


# The box of height 3 that is not paired, and that is one shorter than it is paired, has just so many lines.
SIX_HUNDRED = written("abcdefghij", u="01b 01j 30c 30d 30i 31e", v="00a 10a 10g 20c 20h 20j", w="00b 10c 10e 10g 10h 10i",
                      x="00c 00h 10j 20d 20i 30c", y="00e 00i 20a 20b 20d 20h")
ONE_MORE = written("abcdefghi", u="00f 00h 10c 10e 20c 20e", v="00e 10a 10i 30b 30c 30f", w="00b 00d 10h 10i 20a 30h",
                   x="01f 11g 20a 21a 22b 30c", y="00c 00f 00h 10d 30a 30c")


def long_piece(reach, heights=2):
    """A piece whose boxes of height 3 are paired for long: each of the lines in stock can spare something at both ends."""
    def stock(name, other, reach):
        return Kind(*[(across, 0, name) for across in range(reach + 1)], (0, 0, other), (reach, 0, other))

    tall = [(0, up, "i") for up in range(heights)]
    return Piece(list("abcdefghi"), {"ka": stock("a", "b", 3), "kb": stock("c", "d", 3), "kc": stock("e", "f", 3), "kd": stock("g", "h", reach),
                                     "z": Kind(*tall, *[(0, 0, name) for name in "aceg"])})


# Six names must be struck, one for each kind; four more are in no kind.
SIX_STRUCK = Piece(["a", "b", "c", "d", "e", "f", "zzzz", "yyyy", "xxxx", "wwww"], {name * 2: row(name, name) for name in "abcdef"})


def small_pieces():
    return [PAIRED, POOR, ONE, NONE, Piece(["p"], {"k": TALL}), Piece(["p", "q"], {"k": Kind((0, 0, "p"), (0, 0, "q"))}),
            *made_pieces(31, 15, names=1, kinds=2, reach=2, most=5), *made_pieces(32, 25, names=2, kinds=3, reach=2, most=5),
            *made_pieces(33, 25, names=3, kinds=3, reach=2, most=6), *made_pieces(40, 25, names=4, kinds=2, reach=1, most=5),
            *made_pieces(34, 15, names=4, kinds=3, reach=3, most=6),
            *made_pieces(35, 15, names=3, kinds=2, reach=3, most=6), *made_pieces(36, 10, names=5, kinds=6, reach=1, most=4),
            *made_pieces(41, 15, names=2, kinds=6, reach=1, most=3)]


def plain_crowded(piece, kinds, wide, tall):
    """By counting lines and names."""
    cells = {(x, y, name) for x in range(wide) for y in range(tall) for name in piece.names()}
    lines = [(x, y, kind) for kind in kinds for x in range(wide) for y in range(tall)
             if all((x + across, y + up, name) in cells for across, up, name in piece[kind].entries())]
    names = {name for kind in kinds for _, _, name in piece[kind].entries()}
    return 2 * len(lines) > len(names) * wide * tall


def plain_paired(box):
    """Whether a box is paired, by matching its lines one after another; also with more than 200 lines."""
    cells = {line: box.cells_of(line) for line in [box[number] for number in range(box.lines)]}
    owners = {}

    def take(line, tried):
        for cell in cells[line]:
            if cell not in tried:
                tried.add(cell)
                if cell not in owners or take(owners[cell], tried):
                    owners[cell] = line
                    return True
        return False

    old = sys.getrecursionlimit()
    sys.setrecursionlimit(10000)
    paired = all(take(line, set()) and take(line, set()) for line in cells)
    sys.setrecursionlimit(old)
    return paired


def plain_longest(piece, height):
    """By boxes one after another, and whether it is certain; those up to a length or a number of lines are tried."""
    for length in range(1, 25):
        if Box(piece, length, height).lines > 200:
            return length - 1, False
        if not is_paired(Box(piece, length, height)):
            return length - 1, True
    return 24, False


class CrowdedTest(Case):

    def test_some(self):
        # On a board of 4 times 4 these kinds have 24 lines, which want 48 cells, and there are 32.
        self.assertIs(is_crowded(POOR, ["r", "t"], 4, 4), True)
        self.assertIs(is_crowded(POOR, ["r"], FAR, FAR), False)
        self.assertIs(is_crowded(POOR, [], FAR, FAR), False)
        self.assertIs(is_crowded(POOR, ["t"], 1, 2), False)
        self.assertIs(is_crowded(POOR, ("t",), 1, 3), True)
        self.assertIs(is_crowded(piece=POOR, kinds=["t"], wide=1, tall=1), False)
        self.same(crowded_sets(POOR, 4, 4), [["r", "t"], ["t"]])
        self.same(crowded_sets(piece=POOR, wide=1, tall=3), [["t"]])
        self.same(crowded_sets(POOR, 2, 2), [])
        self.same(crowded_sets(NONE, FAR, FAR), [])
        self.same(crowded_sets(PAIRED, FAR, FAR), [])

    def test_equal_is_not_crowded(self):
        piece = Piece(["p"], {"a": row("p", "p")})
        self.assertIs(is_crowded(piece, ["a"], 2, 1), False)
        self.assertIs(is_crowded(piece, ["a"], 3, 1), True)
        self.assertIs(is_crowded(Piece(["p", "q"], {"a": Kind((0, 0, "p"), (0, 0, "q"))}), ["a"], FAR, FAR), False)

    def test_all_sets(self):
        seen = 0
        for piece in small_pieces():
            for wide, tall in ((1, 1), (3, 2), (5, 5), (7, 1), (2, 8)):
                crowded = [kinds for kinds in subsets(piece.kinds()) if plain_crowded(piece, kinds, wide, tall)]
                self.same(crowded_sets(piece, wide, tall), sorted(crowded))
                for kinds in subsets(piece.kinds()):
                    self.assertIs(is_crowded(piece, list(reversed(kinds)), wide, tall), kinds in crowded)
                if crowded and Box(piece, wide, tall).lines <= 200:
                    self.assertIs(is_paired(Box(piece, wide, tall)), False)
                seen += crowded != []
        self.assertGreater(seen, 50)

    def test_sorted(self):
        piece = Piece(["p"], {name: Kind((0, 0, "p"), (1, at, "p")) for at, name in enumerate("abc")})
        self.same(crowded_sets(piece, 50, 50), [["a"], ["a", "b"], ["a", "b", "c"], ["a", "c"], ["b"], ["b", "c"], ["c"]])

    def test_errors(self):
        for wrong in NO_SIZES:
            self.refused(InvalidSize, {"value": wrong}, is_crowded, POOR, ["t"], wrong, 1)
            self.refused(InvalidSize, {"value": wrong}, is_crowded, POOR, ["t"], 1, wrong)
            self.refused(InvalidSize, {"value": wrong}, is_crowded, POOR, ["t"], wrong, -7)
            self.refused(InvalidSize, {"value": wrong}, crowded_sets, POOR, wrong, 1)
            self.refused(InvalidSize, {"value": wrong}, crowded_sets, POOR, 1, wrong)
            self.refused(InvalidSize, {"value": wrong}, crowded_sets, POOR, wrong, -7)
        for action in (lambda kinds: is_crowded(POOR, kinds, 0, None), lambda kinds: square(POOR, kinds)):
            for wrong in (None, True, 0, "", "t", "rt", {}, {"t": 1}, {"t"}, range(0), object(), POOR):
                self.refused(InvalidSet, {"position": None}, action, wrong)
            for wrong in ODD + ["p", "x", ("t",), TALL, 1]:
                self.refused(InvalidSet, {"position": 0}, action, [wrong, "t"])
                self.refused(InvalidSet, {"position": 1}, action, ("t", wrong, "t"))
            self.refused(InvalidSet, {"position": 1}, action, ["t", "t", None])


class SquareTest(Case):

    def test_some(self):
        self.same(square(POOR, ["t"]), 3)
        self.same(square(piece=POOR, kinds=("t", "r")), 3)
        self.assertIsNone(square(POOR, ["r"]))
        self.assertIsNone(square(POOR, []))
        self.assertIsNone(square(NONE, []))
        self.assertIsNone(square(PAIRED, ["r"]))
        self.assertIsNone(square(Piece(["p", "q"], {"k": row("p", "q", "p")}), ["k"]))

    def test_all_sizes(self):
        for piece in small_pieces():
            for kinds in subsets(piece.kinds()):
                lack = 2 * len(kinds) - len({name for kind in kinds for name in piece[kind].names()})
                found = square(piece, kinds)
                self.assertEqual(found is None, lack <= 0)
                if found is not None:
                    crowded = [is_crowded(piece, kinds, size, size) for size in range(1, found + 4)]
                    self.assertEqual(crowded, [False] * (found - 1) + [True] * 4)
                    self.assertIs(is_crowded(piece, kinds, FAR, FAR), True)
                    if found < 12:
                        self.assertIs(plain_crowded(piece, kinds, found, found), True)
                        self.assertIs(plain_crowded(piece, kinds, found - 1, found - 1), False)
                else:
                    self.assertIs(is_crowded(piece, kinds, FAR, FAR), False)

    def test_a_square_of_one(self):
        ring = Piece(list("abc"), {"x": Kind((0, 0, "a"), (0, 0, "b")), "y": Kind((0, 0, "b"), (0, 0, "c")),
                                   "z": Kind((0, 0, "c"), (0, 0, "a"))})
        self.same([square(ring, ["x", "y", "z"]), square(ring, ["x", "y"])], [1, 1])
        self.assertIs(is_crowded(ring, ["x", "y", "z"], 1, 1), True)

    def test_a_great_square(self):
        far = [Kind((0, 0, "a"), (3, 3, "a")), Kind((0, 3, "b"), (3, 0, "b")), Kind((0, 0, "c"), (3, 3, "c")),
               Kind((0, 3, "d"), (3, 0, "d")), Kind((0, 0, "e"), (3, 3, "e"))]
        piece = Piece(list("abcdefghi"), dict(zip("uvwxy", far)))
        self.same(square(piece, ["u"]), 11)
        lean = Piece(list("abcde"), {"u": Kind((0, 0, "a"), (3, 3, "b"), (0, 0, "c"), (0, 0, "d"), (0, 0, "e")),
                                     "v": Kind((0, 0, "a"), (3, 3, "b")), "w": Kind((0, 0, "c"), (3, 3, "d"))})
        self.same(square(lean, ["u", "v", "w"]), 35)


class LengthsTest(Case):

    def test_some(self):
        self.assertIs(always_paired(PAIRED, 1), True)
        self.assertIs(always_paired(ONE, 1), False)
        self.assertIs(always_paired(piece=POOR, height=1), True)
        self.assertIs(always_paired(POOR, 2), False)
        self.same([longest(ONE, height) for height in (1, 2, 3)], [2, 2, 2])
        self.same([longest(POOR, height) for height in (1, 2, 3)], [None, 1, 0])
        self.same(longest(piece=POOR, height=3), 0)
        self.same(stairs(POOR), [(1, 3), (2, 2)])
        self.same(stairs(ONE), [(3, 1)])
        self.same(stairs(piece=PAIRED), [])
        self.same(stairs(NONE), [])
        self.same([longest(NONE, height) for height in (1, 2, 3)], [None] * 3)

    def test_boxes_one_after_another(self):
        seen = {"always": 0, "never": 0, "some": 0}
        for piece in small_pieces():
            for height in (1, 2, 3):
                tried, is_certain = plain_longest(piece, height)
                found = longest(piece, height)
                self.assertIs(always_paired(piece, height), found is None)
                if is_certain:
                    self.same(found, tried)
                    seen["never" if tried == 0 else "some"] += 1
                else:
                    self.assertTrue(found is None or found >= tried)
                    seen["always"] += 1
        self.assertGreater(min(seen.values()), 5, seen)

    def test_longer_than_two_hundred_lines(self):
        for piece, height, length in ((SIX_HUNDRED, 3, 44), (SIX_HUNDRED, 2, None), (SIX_HUNDRED, 1, None)):
            self.same(longest(piece, height), length)
            if length is not None:
                self.assertIs(plain_paired(Box(piece, length, height)), True)
                self.assertIs(plain_paired(Box(piece, length + 1, height)), False)

    def test_always_paired_at_great_lengths(self):
        for piece in small_pieces():
            for height in (1, 2, 3):
                if always_paired(piece, height):
                    self.assertIs(plain_paired(Box(piece, 20, height)), True)
                    self.assertIsNone(longest(piece, height))
                    self.assertTrue(height == 1 or always_paired(piece, height - 1))

    def test_paired_pieces_are_always_paired(self):
        for piece in small_pieces():
            if least_choice(piece) is not None:
                self.same([longest(piece, height) for height in (1, 2, 3)], [None] * 3)
                self.same(stairs(piece), [])

    def test_stairs(self):
        seen = {0: 0, 1: 0, 2: 0}
        for piece in small_pieces():
            ends = [(longest(piece, height) + 1, height) for height in (1, 2, 3) if longest(piece, height) is not None]
            wanted = [size for size in ends
                      if not any(other[0] <= size[0] and other[1] <= size[1] and other != size for other in ends)]
            self.same(stairs(piece), sorted(wanted))
            for wide, tall in stairs(piece):
                self.assertIs(plain_paired(Box(piece, wide, tall)), False)
                self.assertTrue(wide == 1 or plain_paired(Box(piece, wide - 1, tall)))
                self.assertTrue(tall == 1 or plain_paired(Box(piece, wide, tall - 1)))
            seen[min(2, len(wanted))] += 1
        self.assertGreater(min(seen.values()), 2)

    def test_six_hundred_lines_and_one_more(self):
        self.assertEqual(Box(SIX_HUNDRED, 45, 3).lines, 600)
        self.same(longest(SIX_HUNDRED, 3), 44)
        self.same(stairs(SIX_HUNDRED), [(45, 3)])
        self.assertEqual(Box(ONE_MORE, 49, 3).lines, 601)
        self.assertIs(plain_paired(Box(ONE_MORE, 48, 3)), True)
        self.assertIs(plain_paired(Box(ONE_MORE, 49, 3)), False)
        self.refused(TooMany, {"what": "lines", "limit": 600}, longest, ONE_MORE, 3)
        self.refused(TooMany, {"what": "lines", "limit": 600}, stairs, ONE_MORE)
        self.same([longest(ONE_MORE, 1), longest(ONE_MORE, 2)], [None, None])
        self.same([always_paired(ONE_MORE, height) for height in (1, 2, 3)], [True, True, False])

    def test_long_boxes(self):
        self.same(longest(long_piece(2), 3), 44)
        self.same(stairs(long_piece(2)), [(45, 3)])
        self.same([longest(long_piece(2), height) for height in (1, 2)], [None, None])
        for action, *args in ((longest, 3), (stairs,)):
            self.refused(TooMany, {"what": "lines", "limit": 600}, action, long_piece(3), *args)
        self.same([always_paired(long_piece(3), height) for height in (1, 2, 3)], [True, True, False])
        for reach in (1, 2):
            for piece in (long_piece(reach), long_piece(reach).mirrored(), long_piece(reach) - "ka", long_piece(reach).struck(["b", "d"])):
                found = longest(piece, 3)
                self.assertEqual(found is None, always_paired(piece, 3))
                if found is not None:
                    self.assertTrue(plain_paired(Box(piece, found, 3)))
                    self.assertFalse(plain_paired(Box(piece, found + 1, 3)))
        for wide in (1, 20, 44):
            self.assertTrue(plain_paired(Box(long_piece(3), wide, 3)))

    def test_many_long_boxes(self):
        # These calls take less than half a second; with a box made and listed for each length, they took two and a half.
        begin = time.perf_counter()
        for _ in range(50):
            longest(long_piece(2), 3), stairs(long_piece(2))
            if time.perf_counter() - begin > 10:
                break
        self.assertLess(time.perf_counter() - begin, 10)

    def test_wrong_heights(self):
        for wrong in NO_HEIGHTS:
            for piece in (PAIRED, POOR, ONE_MORE, NONE):
                self.refused(InvalidHeight, {"value": wrong}, always_paired, piece, wrong)
                self.refused(InvalidHeight, {"value": wrong}, longest, piece, wrong)


class StrikesTest(Case):

    def test_some(self):
        self.same(least_strikes(POOR), [["p"]])
        self.same(least_strikes(PAIRED), [[]])
        self.same(least_strikes(NONE), [[]])
        self.same(least_strikes(piece=ONE), [["a"]])
        self.same(least_strikes(Piece(["p", "q"], {"a": row("p", "q"), "b": row("q", "p")})), [["p"], ["q"]])
        self.same(least_strikes(Piece(list("abc"), {name: row(name, name) for name in "abc"})), [["a", "b", "c"]])

    def test_all_sets(self):
        seen = {0: 0, 1: 0, 2: 0}
        for piece in small_pieces() + made_pieces(37, 30, names=6, kinds=6, reach=1, most=3) + made_pieces(
                39, 40, names=6, kinds=3, reach=0, most=4):
            found = [names for names in subsets(piece.names()) if least_choice(piece.struck(names)) is not None]
            fewest = min(len(names) for names in found)
            self.same(least_strikes(piece), sorted(names for names in found if len(names) == fewest))
            seen[min(fewest, 2)] += 1
        self.assertGreater(min(seen.values()), 10, seen)

    def test_many_struck(self):
        self.same(least_strikes(SIX_STRUCK), [["a", "b", "c", "d", "e", "f"]])
        self.same(least_strikes(SIX_STRUCK - "cc"), [["a", "b", "d", "e", "f"]])
        self.same(least_strikes(SIX_STRUCK.renamed({name: name[0] + "xyz"[len(name) % 3] for name in SIX_STRUCK.names()})),
                  [["ay", "by", "cy", "dy", "ey", "fy"]])

    def test_many_pieces(self):
        # These calls take less than half a second; with a piece made for each set of names, they took six.
        begin = time.perf_counter()
        for _ in range(200):
            least_strikes(SIX_STRUCK)
            if time.perf_counter() - begin > 4:
                break
        self.assertLess(time.perf_counter() - begin, 4)

    def test_all_sets_of_many_names(self):
        seen = {}
        for piece in [*made_pieces(181, 12, names=10, kinds=6, reach=1, most=3), *made_pieces(182, 12, names=8, kinds=6, reach=1, most=2),
                      *made_pieces(183, 12, names=7, kinds=6, reach=2, most=3), *made_pieces(184, 12, names=9, kinds=6, reach=0, most=2)]:
            paired = {}
            for names in subsets(piece.names()):
                kinds = tuple(piece.struck(names).kinds())
                if kinds not in paired:
                    paired[kinds] = least_choice(piece.struck(names)) is not None
                if paired[kinds]:
                    fewest = len(names)
                    break
            strikes = [list(names) for names in itertools.combinations(piece.names(), fewest) if least_choice(piece.struck(names)) is not None]
            self.same(least_strikes(piece), strikes)
            seen[fewest] = seen.get(fewest, 0) + 1
        self.assertGreater(len(seen), 2, seen)

    def test_ten_names(self):
        source = random.Random(38)
        piece = Piece(list(FIRST[:10]), {name: Kind(*[(0, 0, other) for other in source.sample(FIRST[:10], 3)])
                                         for name in "uvwxyz"})
        found = [list(names) for many in (0, 1) for names in itertools.combinations(piece.names(), many)
                 if least_choice(piece.struck(names)) is not None]
        self.same(least_strikes(piece), [names for names in found if len(names) == len(found[0])])
        self.same(least_strikes(Piece(list(FIRST[:10]))), [[]])


class KeptTest(Case):

    def test_what_was_returned_may_be_changed(self):
        for call in (lambda: crowded_sets(POOR, 4, 4), lambda: least_strikes(POOR)):
            before = call()
            changed = call()
            changed[0].append("x")
            changed.append("y")
            self.same(call(), before)
        changed = stairs(POOR)
        changed.clear()
        self.same(stairs(POOR), [(1, 3), (2, 2)])

    def test_what_is_passed_is_not_changed(self):
        kinds, shown = ["t", "r"], repr(POOR)
        is_crowded(POOR, kinds, 3, 3), square(POOR, kinds), crowded_sets(POOR, 3, 3), longest(POOR, 3), stairs(POOR)
        least_strikes(POOR), always_paired(POOR, 2)
        wrong = ["t", "t"]
        self.refused(InvalidSet, {"position": 1}, square, POOR, wrong)
        self.same((kinds, wrong, repr(POOR)), (["t", "r"], ["t", "t"], shown))

    def test_parameters(self):
        wanted = {"is_crowded": ["piece", "kinds", "wide", "tall"], "crowded_sets": ["piece", "wide", "tall"],
                  "square": ["piece", "kinds"], "always_paired": ["piece", "height"], "longest": ["piece", "height"],
                  "stairs": ["piece"], "least_strikes": ["piece"]}
        for name, parameters in wanted.items():
            self.assertEqual(list(inspect.signature(getattr(module, name)).parameters), parameters)
            self.assertEqual(getattr(module, name).__module__, "twoeach.sizes")


if __name__ == "__main__":
    unittest.main()
