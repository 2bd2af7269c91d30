import inspect
import itertools
import time
import unittest

from helpers import ODD, Case, made_pieces, row, subsets
from twoeach import owners as module
from twoeach.boxes import Box
from twoeach.errors import InvalidLines, TooMany
from twoeach.kinds import Kind
from twoeach.owners import (
    greatest_lack, greatest_lot, is_owners, is_paired, is_poor_lot, least_lot, lot_cells, lot_lack, owners)
from twoeach.pieces import Piece

PAIR = Piece(["a"], {"k": row("a", "a")})
PQ = Piece(["p", "q"], {"r": row("p", "q"), "t": Kind((0, 0, "p"), (0, 1, "p"))})
LONG = Piece(["p", "q"], {"r": row("p", "q")})


def small_boxes():
    pieces = [PAIR, PQ, Piece(["p"]), *made_pieces(6, 25, names=1, kinds=2, reach=2, most=4),
              *made_pieces(7, 40, names=2, kinds=4, reach=1, most=4), *made_pieces(8, 20, names=3, kinds=5, reach=1, most=5)]
    boxes = [Box(piece, wide, tall) for piece in pieces for wide, tall in ((1, 1), (3, 1), (2, 2), (3, 2), (4, 1), (3, 3))]
    return [box for box in boxes if box.lines <= 9]


def plain_lacks(box):
    """The lacks of all lots, by reckoning each of them."""
    return [(lot, 2 * len(lot) - len({cell for line in lot for cell in box.cells_of(line)}))
            for lot in subsets(box.all_lines())]


def has_owners(box, lines, taken):
    """Whether lines have owners, by trying all pairs of cells."""
    if not lines:
        return True
    free = [cell for cell in box.cells_of(lines[0]) if cell not in taken]
    return any(has_owners(box, lines[1:], taken + list(pair)) for pair in itertools.combinations(free, 2))


def row_box(lines):
    return Box(PAIR, lines + 1)


class PairedTest(Case):

    def test_the_example_of_the_document(self):
        small = Box(PAIR, 3)
        self.same([is_paired(small), greatest_lack(small), least_lot(small), is_paired(Box(PAIR, 2)), owners(Box(PAIR, 1))],
                  [False, 1, [(0, 0, "k"), (1, 0, "k")], True, {}])

    def test_all_lots(self):
        seen = {"paired": 0, "poor": 0, "apart": 0}
        for box in small_boxes():
            lacks = plain_lacks(box)
            most = max(lack for _, lack in lacks)
            best = [lot for lot, lack in lacks if lack == most]
            least, greatest = min(best, key=len), max(best, key=len)
            self.assertTrue(all(set(least) <= set(lot) <= set(greatest) for lot in best))
            self.assertIs(is_paired(box), most == 0)
            self.same(greatest_lack(box), most)
            self.same(least_lot(box), sorted(least))
            self.same(greatest_lot(box), sorted(greatest))
            self.assertIs(has_owners(box, box.all_lines(), []), most == 0)
            self.assertEqual(owners(box) is None, most > 0)
            seen["paired" if most == 0 else "poor"] += 1
            seen["apart"] += least != greatest
        self.assertGreater(min(seen.values()), 20)

    def test_owners_are_owners(self):
        for box in small_boxes() + [Box(LONG, 20, 10), Box(LONG, 201), Box(PQ, 3, 1), Box(Piece(["a"]), 10 ** 30)]:
            found = owners(box)
            if found is not None:
                self.assertIs(is_owners(box, found), True)
                self.assertEqual(list(found), box.all_lines())
                cells = [cell for pair in found.values() for cell in pair]
                self.assertEqual(len(cells), len(set(cells)))
                for line, pair in found.items():
                    self.assertIsInstance(pair, tuple)
                    self.assertEqual(len([cell for cell in pair if cell in box.cells_of(line)]), 2)

    def test_two_hundred_lines(self):
        box = row_box(200)
        self.assertIs(is_paired(box), False)
        self.assertIsNone(owners(box))
        self.same(greatest_lack(box), 199)
        self.same(least_lot(box), box.all_lines())
        self.same(greatest_lot(box), box.all_lines())
        far = Piece(["a", "b"], {"k": Kind((0, 0, "a"), (1, 0, "b"), (1, 0, "a"))})
        self.assertIs(is_paired(Box(far, 201)), True)
        self.assertIs(is_owners(Box(far, 201), owners(Box(far, 201))), True)

    def test_boxes_that_need_handing_on(self):
        # Each line can have any two of three cells, but just one way leads to owners for all.
        piece = Piece(["a", "b"], {"k": Kind((0, 0, "a"), (1, 0, "a"), (0, 0, "b")), "l": row("b", "a", "b")})
        for wide in range(1, 12):
            box = Box(piece, wide)
            self.assertIs(is_paired(box), has_owners(box, box.all_lines(), []))

    def test_a_box_in_a_paired_one_is_paired(self):
        for piece in made_pieces(9, 30, names=3, kinds=3, reach=1, most=4):
            for wide, tall in itertools.product((1, 2, 3), repeat=2):
                if is_paired(Box(piece, wide + 1, tall)) or is_paired(Box(piece, wide, tall + 1)):
                    self.assertIs(is_paired(Box(piece, wide, tall)), True)


def great_boxes():
    """Boxes of nearly 200 lines; of the first four the greatest lacks are 199, 198, 0 and 197."""
    twice = Kind((0, 0, "a"), (1, 0, "a"), (0, 0, "b"), (1, 0, "b"))
    boxes = [Box(PAIR, 201), Box(Piece(["a", "b"], {"k": twice, "l": row("b", "b")}), 101), Box(Piece(["a", "b"], {"k": twice}), 201),
             Box(Piece(["a", "b"], {"k": row("a", "a", "a", "a")}), 203)]
    for piece in [PQ, LONG, *made_pieces(161, 10, names=2, kinds=3, reach=2, most=6), *made_pieces(162, 15, names=4, kinds=4, reach=1, most=5),
                  *made_pieces(163, 15, names=5, kinds=3, reach=2, most=6)]:
        for tall in (1, 2, 9):
            wide = max(wide for wide in range(1, 150) if Box(piece, wide, tall).lines <= 200)
            boxes.append(Box(piece, wide, tall))
    return boxes


def plain_matching(box):
    """A dict from cells to lines that have them, at most two for each, as many as there can be: by one search after another."""
    had = {}

    def get(line, tried):
        for cell in box.cells_of(line):
            if cell not in tried:
                tried.add(cell)
                if cell not in had or get(had[cell], tried):
                    had[cell] = line
                    return True
        return False

    for line in box.all_lines() * 2:
        get(line, set())
    return had


def plain_lots(box, had):
    """The least and the greatest lot: what lines without two cells lead to, and what leads to no cell that no line has."""
    lines = box.all_lines()
    least = {line for line in lines if list(had.values()).count(line) < 2}
    greatest = set(lines)
    before = None
    while before != (len(least), len(greatest)):
        before = len(least), len(greatest)
        least |= {had[cell] for line in least for cell in box.cells_of(line)}
        greatest -= {line for line in greatest if any(had.get(cell) not in greatest for cell in box.cells_of(line))}
    return sorted(least), sorted(greatest)


class GreatBoxesTest(Case):

    def test_greatest_lacks(self):
        self.same([greatest_lack(box) for box in great_boxes()[:4]], [199, 198, 0, 197])
        self.same([is_paired(box) for box in great_boxes()[:4]], [False, False, True, False])
        self.same([box.lines for box in great_boxes()[:4]], [200] * 4)
        self.same([len(least_lot(box)) for box in great_boxes()[:4]], [200, 200, 0, 200])
        self.same([len(greatest_lot(box)) for box in great_boxes()[:4]], [200, 200, 0, 200])

    def test_all_answers(self):
        seen = {"paired": 0, "poor": 0, "apart": 0}
        for box in great_boxes():
            had = plain_matching(box)
            least, greatest = plain_lots(box, had)
            lack = 2 * box.lines - len(had)
            self.same((greatest_lack(box), is_paired(box)), (lack, lack == 0))
            self.same((least_lot(box), greatest_lot(box)), (least, greatest))
            self.same((lot_lack(box, least), lot_lack(box, greatest)), (lack, lack))
            found = owners(box)
            self.assertEqual(found is None, lack > 0)
            self.assertIs(is_owners(box, found), lack == 0)
            self.assertTrue(found is None or list(found) == box.all_lines())
            seen["paired" if lack == 0 else "poor"] += 1
            seen["apart"] += least != greatest
        self.assertGreater(min(seen.values()), 10, seen)

    def test_many_calls(self):
        # These calls take less than half a second; searching anew for each line, they took ten seconds.
        boxes, begin = great_boxes()[:4], time.perf_counter()
        for _ in range(40):
            for box in boxes:
                is_paired(box), owners(box), greatest_lack(box), least_lot(box), greatest_lot(box)
            if time.perf_counter() - begin > 5:
                break
        self.assertLess(time.perf_counter() - begin, 5)


class IsOwnersTest(Case):

    def setUp(self):
        self.box = Box(LONG, 3, 2)
        self.right = {(x, y, "r"): ((x, y, "p"), (x + 1, y, "q")) for x in range(2) for y in range(2)}

    def with_one(self, cells, line=(1, 1, "r")):
        return {**self.right, line: cells}

    def test_right_ones(self):
        self.assertIs(is_owners(self.box, self.right), True)
        self.assertIs(is_owners(self.box, self.with_one(((2, 1, "q"), (1, 1, "p")))), True)
        self.assertIs(is_owners(self.box, dict(reversed(list(self.right.items())))), True)
        self.assertIs(is_owners(Box(LONG, 1), {}), True)
        self.assertIs(is_owners(box=Box(LONG, 1), value={}), True)

    def test_any_value(self):
        for value in ODD + [list(self.right.items()), list(self.right), self.box, "", 1]:
            self.assertIs(is_owners(self.box, value), False)
            self.assertIs(is_owners(Box(LONG, 1), value), value == {} and isinstance(value, dict))

    def test_wrong_lines(self):
        for line in self.right:
            self.assertIs(is_owners(self.box, {key: self.right[key] for key in self.right if key != line}), False)
        for line in ((2, 0, "r"), (0, 2, "r"), (0, 0, "p"), None, (0, 0), True, 1, "r"):
            self.assertIs(is_owners(self.box, self.with_one(((0, 0, "p"), (1, 0, "q")), line)), False)
            less = {key: self.right[key] for key in self.right if key != (0, 0, "r")}
            self.assertIs(is_owners(self.box, {**less, line: ((0, 0, "p"), (1, 0, "q"))}), False)

    def test_true_and_false_in_lines(self):
        for line in self.right:
            for fake in ((line[0] == 1, line[1], "r"), (line[0], line[1] == 1, "r")):
                value = {(fake if key == line else key): cells for key, cells in self.right.items()}
                self.assertEqual(value, self.right)
                self.assertIs(is_owners(self.box, value), False)

    def test_wrong_cells(self):
        own, other = (1, 1, "p"), (2, 1, "q")
        for value in ODD + [(own,), (own, other, own), (own, own), [own, other], (own, None), (None, other), own, (own, [2, 1, "q"]),
                            (own, (2, 1, "p")), (own, (1, 1, "q")), (own, (0, 1, "p")), (own, (3, 1, "q")), {own: 1, other: 2},
                            (own, (2, True, "q")), ((True, 1, "p"), other), ((1, True, "p"), other)]:
            self.assertIs(is_owners(self.box, self.with_one(value)), False, value)

    def test_a_cell_twice(self):
        piece = Piece(["a"], {"k": row("a", "a", "a")})
        box = Box(piece, 4)
        cells = [(x, 0, "a") for x in range(4)]
        self.assertIs(is_owners(box, {(0, 0, "k"): (cells[0], cells[1]), (1, 0, "k"): (cells[2], cells[3])}), True)
        self.assertIs(is_owners(box, {(0, 0, "k"): (cells[0], cells[2]), (1, 0, "k"): (cells[2], cells[3])}), False)
        self.assertIs(is_owners(box, {(0, 0, "k"): (cells[1], cells[2]), (1, 0, "k"): (cells[2], cells[1])}), False)
        self.assertIs(is_owners(box, {(0, 0, "k"): (cells[0], cells[0]), (1, 0, "k"): (cells[2], cells[3])}), False)
        self.assertIs(is_owners(box, {(0, 0, "k"): (cells[0], cells[3]), (1, 0, "k"): (cells[2], cells[1])}), False)

    def test_all_of_a_small_box(self):
        box = Box(Piece(["a", "b"], {"k": Kind((0, 0, "a"), (1, 0, "a"), (0, 0, "b")), "l": row("b", "b")}), 2)
        cells = box.all_cells()
        pairs = list(itertools.permutations(cells, 2))
        for one, other in itertools.product(pairs, repeat=2):
            fits = set(one) <= {(0, 0, "a"), (1, 0, "a"), (0, 0, "b")} and set(other) == {(0, 0, "b"), (1, 0, "b")}
            wanted = fits and len({*one, *other}) == 4
            self.assertIs(is_owners(box, {(0, 0, "k"): one, (0, 0, "l"): other}), wanted)


class LotsTest(Case):

    def test_lot_cells(self):
        box = Box(PQ, 3, 2)
        self.same(lot_cells(box, []), [])
        self.same(lot_cells(box, ()), [])
        self.same(lot_cells(box, [(1, 0, "t"), (0, 1, "r"), (1, 1, "r")]),
                  [(0, 1, "p"), (1, 0, "p"), (1, 1, "p"), (1, 1, "q"), (2, 1, "q")])
        self.same(lot_cells(box=box, lines=((0, 0, "r"),)), [(0, 0, "p"), (1, 0, "q")])

    def test_lot_lack(self):
        box = Box(PQ, 3, 2)
        self.same(lot_lack(box, []), 0)
        self.same(lot_lack(box, [(0, 0, "r")]), 0)
        self.same(lot_lack(box, ((1, 0, "t"), (0, 1, "r"), (1, 1, "r"))), 1)
        self.same(lot_lack(Box(Piece(["a"], {"k": row("a", "a", "a", "a")}), 4), [(0, 0, "k")]), -2)
        for one in small_boxes()[::9]:
            for lot, lack in plain_lacks(one):
                self.same(lot_lack(box=one, lines=lot), lack)
                self.same(lot_lack(one, list(reversed(lot))), lack)
                self.assertIs(is_poor_lot(one, tuple(lot)), lack > 0)
                self.same(lot_cells(one, lot), sorted({cell for line in lot for cell in one.cells_of(line)}))

    def test_great_boxes(self):
        box = Box.square(PAIR, 10 ** 30)
        lot = [(10 ** 29, y, "k") for y in range(3)] + [(10 ** 29 + 1, 2, "k")]
        self.same(lot_lack(box, lot), 1)
        self.assertEqual(len(lot_cells(box, lot)), 7)

    def test_wrong_lines(self):
        box = Box(PQ, 3, 2)
        good = [(0, 0, "r"), (0, 0, "t"), (1, 0, "t")]
        for action in (lot_cells, lot_lack):
            for wrong in (None, True, 0, "", "lines", {}, {(0, 0, "r"): 1}, {(0, 0, "r")}, range(0), object(), PQ):
                self.refused(InvalidLines, {"position": None}, action, box, wrong)
            for wrong in ODD + [(2, 0, "r"), (0, 1, "t"), (False, 0, "r"), (0, False, "t"), (True, 0, "t"), [0, 0, "r"]]:
                self.refused(InvalidLines, {"position": 0}, action, box, [wrong, *good])
                self.refused(InvalidLines, {"position": 2}, action, box, (*good[:2], wrong, wrong))
            self.refused(InvalidLines, {"position": 3}, action, box, good + good)
            self.refused(InvalidLines, {"position": 1}, action, box, [good[0], good[0], None])
            self.refused(InvalidLines, {"position": 1}, action, box, [good[0], None, good[0]])

    def test_poor_lots(self):
        box = Box(PAIR, 3)
        one, other = (0, 0, "k"), (1, 0, "k")
        self.assertIs(is_poor_lot(box, [one, other]), True)
        self.assertIs(is_poor_lot(box, (other, one)), True)
        self.assertIs(is_poor_lot(box=box, value=[one, other]), True)
        for value in ODD + [[], [one], [one, one], [one, other, one], [one, other, None], [one, (True, 0, "k")], {one: 1, other: 2},
                            {one, other}, [one, [1, 0, "k"]], [one, (2, 0, "k")], [one, (1, False, "k")], "k", [one, {}]]:
            self.assertIs(is_poor_lot(box, value), False, value)


class TooManyTest(Case):

    def test_two_hundred_lines_and_one_more(self):
        lines = {"what": "lines", "limit": 200}
        box, less = row_box(201), row_box(200)
        lot = [(x, 0, "k") for x in range(200)]
        self.same((lot_lack(box, lot), len(lot_cells(box, lot))), (199, 201))
        for action in (is_paired, owners, greatest_lack, least_lot, greatest_lot):
            action(less)
            self.refused(TooMany, lines, action, box)
            self.refused(TooMany, lines, action, Box.square(PAIR, 10 ** 30))
        for action in (is_owners, is_poor_lot):
            for value in (None, {}, [], lot, [None], True):
                action(less, value)
                self.refused(TooMany, lines, action, box, value)


class KeptTest(Case):

    def test_what_was_returned_may_be_changed(self):
        box = Box(PAIR, 3)
        for call in (lambda: least_lot(box), lambda: greatest_lot(box), lambda: lot_cells(box, [(0, 0, "k")])):
            before = call()
            changed = call()
            changed.append("x")
            changed[0] = None
            self.same(call(), before)
        found = owners(Box(PAIR, 2))
        found.clear()
        self.assertEqual(len(owners(Box(PAIR, 2))), 1)

    def test_what_is_passed_is_not_changed(self):
        box, lot, value = Box(PAIR, 3), [(1, 0, "k"), (0, 0, "k")], {(0, 0, "k"): ((0, 0, "a"), (1, 0, "a"))}
        lot_cells(box, lot), lot_lack(box, lot), is_poor_lot(box, lot), is_owners(box, value), owners(box)
        self.same((lot, value), ([(1, 0, "k"), (0, 0, "k")], {(0, 0, "k"): ((0, 0, "a"), (1, 0, "a"))}))
        self.assertEqual(box, Box(PAIR, 3))
        wrong = [(1, 0, "k"), (1, 0, "k")]
        self.refused(InvalidLines, {"position": 1}, lot_lack, box, wrong)
        self.same(wrong, [(1, 0, "k"), (1, 0, "k")])

    def test_parameters(self):
        wanted = {"is_paired": ["box"], "owners": ["box"], "is_owners": ["box", "value"], "lot_cells": ["box", "lines"],
                  "lot_lack": ["box", "lines"], "greatest_lack": ["box"], "least_lot": ["box"], "greatest_lot": ["box"],
                  "is_poor_lot": ["box", "value"]}
        for name, parameters in wanted.items():
            self.assertEqual(list(inspect.signature(getattr(module, name)).parameters), parameters)
            self.assertEqual(getattr(module, name).__module__, "twoeach.owners")


if __name__ == "__main__":
    unittest.main()
