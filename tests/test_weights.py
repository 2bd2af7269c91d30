import inspect
import itertools
import random
import unittest

from helpers import BIG, FAR, ODD, Case, flat_piece, made_pieces, row
from twoeach import weights as module
from twoeach.boxes import Box
from twoeach.errors import InvalidMarks, InvalidSize, Marked, TooMany, UnknownCell, UnknownKind
from twoeach.kinds import Kind
from twoeach.pieces import Piece
from twoeach.weights import Stand, halved_length, is_halved, line_weight, weight

NONE = Piece(["p"])
PAIR = flat_piece("a", k="0a 1a")
PQ = Piece(["p", "q"], {"r": row("p", "q"), "t": Kind((0, 0, "p"), (0, 1, "p"), (0, 2, "p"))})
SIX = flat_piece("abcdef", k="0a 0b 0c 0d 0e 0f")
NO_LISTS = [None, True, False, 0, 1, "", "p", {}, {(0, 0, "p"): 1}, {(0, 0, "p")}, range(0), object(), NONE]
NO_SIZES = [None, True, False, 0, -1, FAR + 1, "", "1", [1], (1,), {}, object(), NONE]
NO_CELLS = ODD + [(4, 0, "p"), (0, 3, "p"), (0, 0, "r"), (True, 0, "p"), (0, False, "q"), [0, 0, "p"], NONE, Box(NONE, 1)]


def pieces():
    return [NONE, PAIR, PQ, SIX, *made_pieces(111, 20, names=2, kinds=3, reach=2, most=6), *made_pieces(112, 20, names=3, kinds=4, reach=1, most=6),
            *made_pieces(113, 10, names=1, kinds=2, reach=3, most=6), *made_pieces(114, 10, names=2, kinds=2, reach=3, most=6)]


def plain_weights(box, first=(), second=()):
    """The weights of all lines, by the words of the document."""
    found = {}
    for line in box.all_lines():
        cells = box.cells_of(line)
        found[line] = 0 if set(cells) & set(second) else 2 ** (6 - len(cells)) * 2 ** len(set(cells) & set(first))
    return found


def made_stands(seed, boxes, many):
    source = random.Random(seed)
    for box in boxes:
        cells = box.all_cells()
        for _ in range(many):
            some = source.sample(cells, source.randint(0, len(cells)))
            half = source.randint(0, len(some))
            yield box, some[:half], some[half:]


class BoxTest(Case):

    def test_some(self):
        self.same([weight(Box(NONE, 3)), weight(Box(PAIR, 1)), weight(Box(PAIR, 3)), weight(box=Box(PQ, 4, 4))], [0, 0, 32, 12 * 16 + 8 * 8])
        self.same([line_weight(Box(PQ, 1), "t"), line_weight(box=Box(PQ, 1), kind="r"), line_weight(Box(SIX, 1), "k")], [8, 16, 1])
        self.same([is_halved(Box(PAIR, 2)), is_halved(box=Box(PAIR, 3)), is_halved(Box(NONE, FAR, FAR))], [True, False, True])

    def test_each_number_of_cells(self):
        for many in range(2, 7):
            piece = Piece(list("abcdef"), {"k": Kind(*[(0, 0, name) for name in "abcdef"[:many]])})
            self.same(line_weight(Box(piece, 1), "k"), 2 ** (6 - many))
            self.same(weight(Box(piece, 3, 2)), 6 * 2 ** (6 - many))

    def test_all_boxes(self):
        for piece in pieces():
            for wide, tall in ((1, 1), (3, 2), (2, 4), (5, 1)):
                box = Box(piece, wide, tall)
                self.same(weight(box), sum(plain_weights(box).values()))
                self.assertIs(is_halved(box), weight(box) < 32)
                for kind in piece.kinds():
                    self.same(line_weight(box, kind), 2 ** (6 - len(piece[kind])))

    def test_great_boxes(self):
        self.same(weight(Box.square(PAIR, FAR)), 16 * FAR * (FAR - 1))
        self.assertIs(is_halved(Box.square(PAIR, FAR)), False)
        self.same(weight(Box(SIX, 31, 1)), 31)
        self.assertIs(is_halved(Box(SIX, 31, 1)), True)
        self.assertIs(is_halved(Box(SIX, 32, 1)), False)

    def test_wrong_kinds(self):
        for wrong in ODD + ["p", "x", ("r",), row("p", "q"), 1]:
            self.refused(UnknownKind, {"value": wrong}, line_weight, Box(PQ, 4), wrong)


class HalvedTest(Case):

    def test_some(self):
        self.same([halved_length(PAIR, 1), halved_length(PAIR, 2), halved_length(piece=SIX, tall=1), halved_length(SIX, 31), halved_length(SIX, 32)],
                  [2, 1, 31, 1, 0])
        self.assertIsNone(halved_length(NONE, 1))
        self.assertIsNone(halved_length(NONE, FAR))
        self.same([halved_length(PQ, tall) for tall in (1, 2, 3, FAR)], [2, 1, 1, 0])

    def test_no_kind_fits(self):
        piece = Piece(["p"], {"t": Kind((0, 0, "p"), (0, 1, "p"), (0, 2, "p"))})
        self.same([halved_length(piece, tall) for tall in (1, 2, 3, 4)], [None, None, 3, 1])
        long = Piece(["p"], {"t": Kind((0, 0, "p"), (3, 1, "p"))})
        self.same([halved_length(long, tall) for tall in (1, 2, 3, FAR)], [None, 4, 3, 3])

    def test_all_heights(self):
        for piece in pieces():
            for tall in (1, 2, 3, 4, 9, FAR):
                found = halved_length(piece, tall)
                if found is None:
                    self.assertEqual([piece[kind].reach[1] < tall for kind in piece.kinds()], [False] * len(piece))
                    self.assertIs(is_halved(Box(piece, FAR, tall)), True)
                else:
                    self.assertTrue(found == 0 or is_halved(Box(piece, found, tall)))
                    self.assertIs(is_halved(Box(piece, found + 1, tall)), False)

    def test_wrong_sizes(self):
        for wrong in NO_SIZES:
            for piece in (NONE, PAIR, PQ):
                self.refused(InvalidSize, {"value": wrong}, halved_length, piece, wrong)


class StandTest(Case):

    def test_parts(self):
        box = Box(PQ, 4, 3)
        stand = Stand(box, [(1, 0, "p"), (0, 2, "q")], [(3, 1, "q"), (0, 0, "p")])
        self.assertIs(stand.box, box)
        self.same(stand.first(), [(0, 2, "q"), (1, 0, "p")])
        self.same(stand.second(), [(0, 0, "p"), (3, 1, "q")])
        self.same((Stand(box).first(), Stand(box).second(), Stand(box).weight, Stand(box).whole), ([], [], weight(box), []))
        self.assertEqual(Stand(box=box, first=((1, 0, "p"),), second=((0, 0, "p"),)), Stand(box, [(1, 0, "p")], [(0, 0, "p")]))
        self.assertEqual(Stand(box, second=[(1, 0, "p")]), Stand(box, [], ((1, 0, "p"),)))

    def test_weights(self):
        box = Box(PAIR, 4)
        cells = box.all_cells()
        self.same(Stand(box, cells[:1]).weight, 32 + 16 + 16)
        self.same(Stand(box, cells[:2]).weight, 64 + 32 + 16)
        self.same(Stand(box, cells[:2]).whole, [(0, 0, "k")])
        self.same(Stand(box, cells).whole, box.all_lines())
        self.same(Stand(box, cells[:1], cells[1:2]).weight, 16)
        self.same(Stand(box, [], cells).weight, 0)
        self.same([Stand(box, cells[:1]).weight_of(cell) for cell in cells], [0, 32 + 16, 32, 16])

    def test_made_stands(self):
        boxes = [Box(piece, wide, tall) for piece in pieces() for wide, tall in ((1, 1), (3, 2), (2, 4), (4, 4))]
        seen = {True: 0, False: 0}
        for box, first, second in made_stands(115, boxes, 3):
            weights = plain_weights(box, first, second)
            stand = Stand(box, first, second)
            self.same((stand.first(), stand.second()), (sorted(first), sorted(second)))
            self.same(stand.weight, sum(weights.values()))
            self.same(stand.whole, [line for line in box.all_lines() if set(box.cells_of(line)) <= set(first)])
            free = [cell for cell in box.all_cells() if cell not in first + second]
            sums = {cell: sum(weights[line] for line in box.lines_at(cell)) for cell in free}
            for cell in box.all_cells():
                self.same(stand.weight_of(cell), sums.get(cell, 0))
            best = [cell for cell in free if sums[cell] == max(sums.values())]
            self.same(stand.most(), best[0] if best else None)
            seen[stand.whole != []] += 1
        self.assertGreater(min(seen.values()), 30)

    def test_most(self):
        self.same(Stand(Box(NONE, 3)).most(), (0, 0, "p"))
        self.same(Stand(Box(NONE, 3), [(0, 0, "p")], [(1, 0, "p")]).most(), (2, 0, "p"))
        self.assertIsNone(Stand(Box(NONE, 1), [(0, 0, "p")]).most())
        self.assertIsNone(Stand(Box(NONE, 1), (), [(0, 0, "p")]).most())
        self.same(Stand(Box(PAIR, 4)).most(), (1, 0, "a"))
        self.same(Stand(Box(PAIR, 4), [], [(1, 0, "a"), (3, 0, "a")]).most(), (0, 0, "a"))

    def test_marks_do_not_make_more(self):
        source = random.Random(116)
        for piece in pieces():
            for wide, tall in ((3, 2), (4, 4)):
                stand, before, halved = Stand(Box(piece, wide, tall)), None, is_halved(Box(piece, wide, tall))
                while stand.most() is not None:
                    free = [cell for cell in stand.box.all_cells() if cell not in stand.first() + stand.second()]
                    stand = stand + source.choice(free)
                    self.assertTrue(before is None or stand.weight <= before)
                    before = stand.weight
                    if stand.most() is not None:
                        stand = stand - stand.most()
                self.assertTrue(not halved or stand.whole == [])

    def test_more_marks(self):
        box = Box(PQ, 4, 3)
        stand = Stand(box, [(1, 0, "p")], [(0, 0, "p")])
        self.assertEqual(stand + (3, 2, "q"), Stand(box, [(1, 0, "p"), (3, 2, "q")], [(0, 0, "p")]))
        self.assertEqual(stand - (0, 0, "q"), Stand(box, [(1, 0, "p")], [(0, 0, "p"), (0, 0, "q")]))
        self.assertIsInstance(stand + (3, 2, "q"), Stand)
        self.assertEqual(stand, Stand(box, [(1, 0, "p")], [(0, 0, "p")]))
        for wrong in NO_CELLS:
            self.refused(UnknownCell, {"value": wrong}, lambda: stand + wrong)
            self.refused(UnknownCell, {"value": wrong}, lambda: stand - wrong)
        for taken in ((1, 0, "p"), (0, 0, "p")):
            self.refused(Marked, {"value": taken}, lambda: stand + taken)
            self.refused(Marked, {"value": taken}, lambda: stand - taken)
        self.assertEqual(stand, Stand(box, [(1, 0, "p")], [(0, 0, "p")]))

    def test_equal(self):
        box = Box(PQ, 4, 3)
        one, other = (1, 0, "p"), (0, 0, "p")
        stand = Stand(box, [one, other])
        self.assertTrue(stand == Stand(Box(PQ, 4, 3), [other, one]))
        self.assertFalse(stand != Stand(box, (other, one)))
        for unlike in (Stand(box, [one], [other]), Stand(box, [], [one, other]), Stand(box, [one]), Stand(Box(PQ, 4, 2), [one, other]),
                       Stand(Box(PQ, 5, 3), [one, other]), None, box, [one, other], 0):
            self.assertFalse(stand == unlike)
            self.assertTrue(stand != unlike)

    def test_properties_are_not_set(self):
        for name in ("box", "weight", "whole"):
            with self.assertRaises(AttributeError):
                setattr(Stand(Box(NONE, 1)), name, 1)


class RefusedTest(Case):

    def test_wrong_marks(self):
        box = Box(PQ, 4, 3)
        good = [(0, 0, "p"), (1, 1, "q")]
        for wrong in NO_LISTS:
            self.refused(InvalidMarks, {"position": None}, Stand, box, wrong)
            self.refused(InvalidMarks, {"position": None}, Stand, box, wrong, [None])
            self.refused(InvalidMarks, {"position": None}, Stand, box, good, wrong)
        for wrong in NO_CELLS:
            self.refused(InvalidMarks, {"position": 0}, Stand, box, [wrong, None])
            self.refused(InvalidMarks, {"position": 2}, Stand, box, (*good, wrong), None)
            self.refused(InvalidMarks, {"position": 1}, Stand, box, good, [(2, 2, "p"), wrong, wrong])
        self.refused(InvalidMarks, {"position": 2}, Stand, box, good + good)
        self.refused(InvalidMarks, {"position": 1}, Stand, box, [], [good[0], good[0]])
        self.refused(InvalidMarks, {"position": 1}, Stand, box, good, [(2, 2, "p"), good[1]])
        self.refused(InvalidMarks, {"position": 0}, Stand, box, good, [good[0], good[0]])

    def test_wrong_cells(self):
        stand = Stand(Box(PQ, 4, 3), [(0, 0, "p")])
        for wrong in NO_CELLS:
            self.refused(UnknownCell, {"value": wrong}, stand.weight_of, wrong)

    def test_two_hundred_lines_and_one_more(self):
        lines = {"what": "lines", "limit": 200}
        self.same(Stand(Box(PAIR, 201)).weight, 3200)
        self.same(Stand(Box(PAIR, 201)).most(), (1, 0, "a"))
        self.refused(TooMany, lines, Stand, Box(PAIR, 202))
        self.refused(TooMany, lines, Stand, Box(PAIR, 202), [(0, 0, "a")], [(1, 0, "a")])
        self.refused(TooMany, lines, Stand, Box.square(PAIR, FAR), [(BIG, BIG, "a")])
        self.refused(InvalidMarks, {"position": None}, Stand, Box(PAIR, 202), None)
        self.refused(InvalidMarks, {"position": 0}, Stand, Box(PAIR, 202), [], [None])

    def test_two_thousand_cells_and_one_more(self):
        self.same(Stand(Box(NONE, 2000)).most(), (0, 0, "p"))
        self.same(Stand(Box(NONE, 2, 1000), [(0, 0, "p")]).most(), (0, 1, "p"))
        cells = {"what": "cells", "limit": 2000}
        for box in (Box(NONE, 2001), Box(NONE, 3, 667), Box.square(NONE, FAR)):
            stand = Stand(box, [(0, 0, "p")], [(2, 0, "p")])
            self.same((stand.weight, stand.whole, stand.first(), stand.weight_of((1, 0, "p"))), (0, [], [(0, 0, "p")], 0))
            self.refused(TooMany, cells, stand.most)
            self.same((stand + (1, 0, "p")).first(), [(0, 0, "p"), (1, 0, "p")])
        far = Stand(Box(NONE, FAR, FAR), [(BIG, BIG, "p"), (FAR - 1, 0, "p")])
        self.same(far.first(), [(BIG, BIG, "p"), (FAR - 1, 0, "p")])


class KeptTest(Case):

    def test_what_is_passed_is_not_changed(self):
        first, second, box = [(1, 0, "a"), (0, 0, "a")], [(3, 0, "a"), (2, 0, "a")], Box(PAIR, 5)
        stand = Stand(box, first, second)
        stand.most(), stand.weight_of((4, 0, "a")), stand.whole, stand + (4, 0, "a"), stand - (4, 0, "a")
        self.same((first, second, repr(box)), ([(1, 0, "a"), (0, 0, "a")], [(3, 0, "a"), (2, 0, "a")], repr(Box(PAIR, 5))))
        first.append((4, 0, "a"))
        second.clear()
        self.same((stand.first(), stand.second(), stand.weight), ([(0, 0, "a"), (1, 0, "a")], [(2, 0, "a"), (3, 0, "a")], 64))

    def test_what_was_returned_may_be_changed(self):
        stand = Stand(Box(PAIR, 5), [(0, 0, "a"), (1, 0, "a")], [(3, 0, "a")])
        for call in (stand.first, stand.second, lambda: stand.whole):
            before, changed = call(), call()
            changed.append(1)
            changed[0] = None
            self.same(call(), before)
        self.assertEqual(stand, Stand(Box(PAIR, 5), [(0, 0, "a"), (1, 0, "a")], [(3, 0, "a")]))

    def test_parameters(self):
        wanted = {"weight": ["box"], "line_weight": ["box", "kind"], "is_halved": ["box"], "halved_length": ["piece", "tall"]}
        for name, parameters in wanted.items():
            self.assertEqual(list(inspect.signature(getattr(module, name)).parameters), parameters)
            self.assertEqual(getattr(module, name).__module__, "twoeach.weights")
        self.assertEqual(str(inspect.signature(Stand)), "(box, first=(), second=())")
        for name, parameters in {"first": [], "second": [], "weight_of": ["cell"], "most": []}.items():
            self.assertEqual(list(inspect.signature(vars(Stand)[name]).parameters), ["self"] + parameters)
        for name in ("box", "weight", "whole"):
            self.assertIsInstance(vars(Stand)[name], property)
        for name in ("__add__", "__sub__", "__eq__"):
            self.assertIn(name, vars(Stand))
        self.assertEqual(Stand.__module__, "twoeach.weights")


if __name__ == "__main__":
    unittest.main()
