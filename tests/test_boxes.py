import inspect
import unittest

from helpers import ODD, Case, made_pieces, row
from twoeach.boxes import Box
from twoeach.errors import InvalidSize, TooMany, UnknownCell, UnknownKind, UnknownLine
from twoeach.kinds import Kind
from twoeach.pieces import Piece

RIGHT = Kind((3, 1, "p"), (4, 1, "q"))
TALL = Kind((0, 0, "p"), (0, 1, "p"))
PIECE = Piece(["q", "p"], {"r": RIGHT, "t": TALL})
WIDE = Piece(["p", "q"], {"w": Kind((0, 0, "p"), (3, 2, "p")), "v": row("q", "p", "q"), "a": row("q", "q")})
GREAT = 10 ** 30
NO_SIZES = [None, True, False, 0, -1, GREAT + 1, -GREAT, "", "1", [1], (1,), {1: 1}, {}, object(), Box, PIECE]

PIECES = [PIECE, WIDE, Piece(["p"]), Piece(["p", "q"], {"a": Kind((0, 0, "p"), (0, 0, "q")), "b": Kind((0, 0, "p"), (1, 3, "q"))}),
          *made_pieces(5, 12, names=2, kinds=5, reach=3, most=6)]
SIZES = [(1, 1), (2, 1), (1, 2), (3, 4), (4, 3), (5, 2), (4, 4), (6, 5)]


def plain_cells(box):
    return sorted((x, y, name) for x in range(box.wide) for y in range(box.tall) for name in box.piece.names())


def plain_lines(box):
    """All lines with their cells, found by trying all x and y."""
    cells = set(plain_cells(box))
    out = {}
    for kind in box.piece.kinds():
        for x in range(box.wide + 1):
            for y in range(box.tall + 1):
                own = [(x + across, y + up, name) for across, up, name in box.piece[kind].entries()]
                if cells.issuperset(own):
                    out[x, y, kind] = sorted(own)
    return {line: out[line] for line in sorted(out)}


def boxes():
    return [Box(piece, wide, tall) for piece in PIECES for wide, tall in SIZES]


class ConstructorTest(Case):

    def test_parts(self):
        box = Box(PIECE, 3, 5)
        self.same((box.wide, box.tall), (3, 5))
        self.assertEqual(box.piece, PIECE)
        self.same((Box(PIECE, 3).wide, Box(PIECE, 3).tall), (3, 1))
        self.assertEqual(Box(piece=PIECE, wide=3, tall=5), box)

    def test_square(self):
        self.assertEqual(Box.square(PIECE, 7), Box(PIECE, 7, 7))
        self.assertEqual(Box.square(piece=PIECE, size=GREAT), Box(PIECE, GREAT, GREAT))
        self.assertIsInstance(vars(Box)["square"], staticmethod)

    def test_sizes(self):
        for size in (1, 2, 10 ** 15, GREAT - 1, GREAT):
            self.assertEqual((Box(PIECE, size, 1).wide, Box(PIECE, 1, size).tall), (size, size))

    def test_wrong_sizes(self):
        for wrong in NO_SIZES:
            self.refused(InvalidSize, {"value": wrong}, Box, PIECE, wrong)
            self.refused(InvalidSize, {"value": wrong}, Box, PIECE, 1, wrong)
            self.refused(InvalidSize, {"value": wrong}, Box, PIECE, wrong, 0)
            self.refused(InvalidSize, {"value": wrong}, Box.square, PIECE, wrong)

    def test_properties_are_not_set(self):
        box = Box(PIECE, 3)
        for name in ("piece", "wide", "tall", "cells", "lines"):
            with self.assertRaises(AttributeError):
                setattr(box, name, 1)

    def test_equal(self):
        box = Box(PIECE, 3, 2)
        self.assertTrue(box == Box(Piece(["p", "q"], {"t": TALL, "r": RIGHT}), 3, 2))
        for other in (Box(PIECE, 2, 2), Box(PIECE, 3, 3), Box(PIECE, 2, 3), Box(PIECE - "t", 3, 2)):
            self.assertFalse(box == other)
            self.assertTrue(box != other)
        for value in ODD + [repr(box), PIECE, (3, 2), box.all_lines()]:
            self.assertIs(box == value, False)
            self.assertIs(value == box, False)

    def test_repr(self):
        self.assertEqual(repr(Box(Piece(["p"]), 3)), "Box(Piece(['p']), 3, 1)")
        self.assertEqual(repr(Box(PIECE, 3, 20)), f"Box({PIECE!r}, 3, 20)")

    def test_one_box_in_another_one(self):
        for wide, tall in SIZES:
            for more, taller in SIZES:
                one, other = Box(PIECE, wide, tall), Box(PIECE, more, taller)
                self.assertIs(one <= other, wide <= more and tall <= taller)
                self.assertIs(one >= other, wide >= more and tall >= taller)
                self.assertIs(one <= Box(WIDE, more, taller), False)
                self.assertIs(one >= Box(WIDE, more, taller), False)
        self.assertIs(Box(PIECE, 1) <= Box(Piece(["p", "q"], {"t": TALL, "r": row("p", "q")}), 1), True)


class NumbersTest(Case):

    def test_the_example_of_the_document(self):
        box = Box(PIECE, 4, 4)
        self.same([box.cells, box.lines, box.lines_of("t"), box[1], box.number_of((0, 1, "r")), box.lines_at((0, 0, "p"))],
                  [32, 24, 12, (0, 0, "t"), 2, [(0, 0, "r"), (0, 0, "t")]])
        far = Box.square(PIECE, GREAT)
        self.assertEqual(far.lines, 2 * 10 ** 60 - 2 * GREAT)
        self.same(far.cells_of((10 ** 29, 5, "t")), [(10 ** 29, 5, "p"), (10 ** 29, 6, "p")])
        self.assertIs(box <= far, True)

    def test_all_of_small_boxes(self):
        for box in boxes():
            lines, cells = plain_lines(box), plain_cells(box)
            self.same(box.cells, len(cells))
            self.same(box.lines, len(lines))
            self.same(box.all_lines(), list(lines))
            self.same(box.all_cells(), cells)
            for kind in box.piece.kinds():
                self.same(box.lines_of(kind), len([line for line in lines if line[2] == kind]))
            for number, line in enumerate(lines):
                self.same(box[number], line)
                self.same(box.number_of(line), number)
                self.same(box.cells_of(line), lines[line])
                self.assertIs(box.is_line(line), True)
            for cell in cells:
                self.assertIs(cell in box, True)
                self.same(box.lines_at(cell), [line for line in lines if cell in lines[line]])

    def test_the_cells_of_all_lines(self):
        for piece in [PIECE, WIDE, *made_pieces(171, 15, names=3, kinds=4, reach=3, most=6)]:
            for wide, tall in ((1, 1), (4, 2), (2, 5), (1, 7), (6, 1), (5, 4)):
                box = Box(piece, wide, tall)
                if box.lines <= 200:
                    self.same(box.all_lines(), [box[number] for number in range(box.lines)])
                    self.same(box.cells_of_lines(), {line: box.cells_of(line) for line in box.all_lines()})
                    cells = box.all_cells()
                    self.same({line: [cells[number] for number in numbers] for line, numbers in box.numbers_of_lines().items()},
                              box.cells_of_lines())

    def test_common_cells(self):
        for box in (Box(PIECE, 3, 3), Box(WIDE, 5, 3), Box(PIECES[-1], 4, 4), Box(PIECES[-2], 4, 4)):
            lines = plain_lines(box)
            for line in lines:
                for other in lines:
                    self.same(box.common(line, other), [cell for cell in lines[line] if cell in lines[other]])

    def test_boxes_narrower_than_a_reach(self):
        box = Box(WIDE, 2, GREAT)
        self.same((box.lines, box.lines_of("w"), box.lines_of("v"), box.lines_of("a")), (GREAT, 0, 0, GREAT))
        self.same((Box(WIDE, 1, 5).lines, Box(WIDE, 1, 5).all_lines()), (0, []))
        self.same((Box(WIDE, GREAT, 2).lines_of("w"), Box(WIDE, 3, 3).lines_of("w"), Box(WIDE, 4, 3).lines_of("w")), (0, 0, 1))
        self.same(Box(PIECE - "r", GREAT).all_lines(), [])
        self.same(Box(Piece(["p"]), GREAT, GREAT).lines, 0)
        self.same(Box(Piece(["p"]), GREAT, GREAT).all_lines(), [])

    def test_great_boxes(self):
        box = Box(WIDE, GREAT, GREAT - 7)
        rooms = {"a": (GREAT - 1, GREAT - 7), "v": (GREAT - 2, GREAT - 7), "w": (GREAT - 3, GREAT - 9)}
        self.same(box.cells, 2 * GREAT * (GREAT - 7))
        self.same(box.lines, sum(wide * tall for wide, tall in rooms.values()))
        for kind in rooms:
            self.same(box.lines_of(kind), rooms[kind][0] * rooms[kind][1])
        for x in (0, 1, 10 ** 17 + 3, GREAT - 4, GREAT - 3, GREAT - 2, GREAT - 1):
            for y in (0, 5, 10 ** 29, GREAT - 10, GREAT - 9, GREAT - 8, GREAT - 7):
                for kind in rooms:
                    there = x < rooms[kind][0] and y < rooms[kind][1]
                    self.assertIs(box.is_line((x, y, kind)), there)
                    if there:
                        self.same(box[box.number_of((x, y, kind))], (x, y, kind))
                    else:
                        self.refused(UnknownLine, {"value": (x, y, kind)}, box.number_of, (x, y, kind))
        column = 2 * (GREAT - 7) + GREAT - 9
        self.same(box.number_of((1, 0, "a")), column)
        self.same(box.number_of((0, GREAT - 9, "a")), column - 4)
        self.same(box.number_of((5, 3, "w")), 5 * column + 11)
        self.same(box[box.lines - 1], (GREAT - 2, GREAT - 8, "a"))
        self.same(box[0], (0, 0, "a"))
        for number in (1, 2, 3, column - 1, column, 10 ** 59 + 1, box.lines - 2):
            self.same(box.number_of(box[number]), number)

    def test_great_cells(self):
        box = Box.square(WIDE, GREAT)
        self.same(box.lines_at((0, 0, "p")), [(0, 0, "w")])
        end = GREAT - 1
        self.same(box.lines_at((end, end, "p")), [(end - 3, end - 2, "w")])
        self.same(box.lines_at((end, end, "q")), [(end - 2, end, "v"), (end - 1, end, "a")])
        self.same(box.lines_at((10 ** 29, 7, "q")),
                  sorted([(10 ** 29, 7, "v"), (10 ** 29 - 2, 7, "v"), (10 ** 29, 7, "a"), (10 ** 29 - 1, 7, "a")]))
        self.same(box.common((5, 5, "v"), (6, 5, "a")), [(7, 5, "q")])
        self.same(box.common((5, 5, "v"), (5, 6, "v")), [])


class RefusedTest(Case):

    def test_no_cells(self):
        box = Box(PIECE, 4, 3)
        wrong = ODD + [(4, 0, "p"), (0, 3, "p"), (-1, 0, "p"), (0, -1, "p"), (0, 0, "z"), (0, 0, "r"), (0, 0), (0, 0, "p", 0),
                       [0, 0, "p"], (True, 0, "p"), (0, True, "p"), (False, 0, "p"), (0, False, "p"), (GREAT, 0, "p"),
                       (0, 0, True), (0, 0, ("p",)), (0, 0, "r"), ("p", 0, 0), "p", box, PIECE]
        for value in wrong:
            self.assertIs(value in box, False)
            self.refused(UnknownCell, {"value": value}, box.lines_at, value)

    def test_no_lines(self):
        box = Box(PIECE, 4, 3)
        wrong = ODD + [(3, 0, "r"), (4, 0, "t"), (0, 2, "t"), (0, 3, "r"), (-1, 0, "t"), (0, -1, "t"), (0, 0, "z"), (0, 0, "p"),
                       (0, 0), (0, 0, "t", 0), [0, 0, "t"], (True, 0, "t"), (0, True, "t"), (False, 0, "t"), (0, False, "t"),
                       (GREAT, 0, "t"), (0, 0, True), (0, 0, ("t",)), ("t", 0, 0), "t", box, PIECE]
        for value in wrong:
            self.assertIs(box.is_line(value), False)
            for action in (box.number_of, box.cells_of):
                self.refused(UnknownLine, {"value": value}, action, value)
            self.refused(UnknownLine, {"value": value}, box.common, value, (0, 0, "t"))
            self.refused(UnknownLine, {"value": value}, box.common, value, None)
            self.refused(UnknownLine, {"value": value}, box.common, (0, 0, "t"), value)
        self.assertIs(box.is_line((0, 0, "r")) and box.is_line((2, 2, "r")) and box.is_line((3, 1, "t")), True)

    def test_no_numbers(self):
        for box in (Box(PIECE, 4, 3), Box(PIECE, 1, 1), Box(Piece(["p"]), 5, 5), Box(PIECE, GREAT, GREAT)):
            for value in (None, True, False, -1, box.lines, box.lines + 1, "0", "", [0], (0,), (0, 0, "t"), {}, object()):
                self.refused(UnknownLine, {"value": value}, lambda: box[value])

    def test_no_kinds(self):
        box = Box(PIECE, 4, 3)
        for value in ODD + ["p", "q", "z", "rt", RIGHT, ["r"], ("r",), 1]:
            self.refused(UnknownKind, {"value": value}, box.lines_of, value)

    def test_not_iterated_over(self):
        with self.assertRaises(TypeError):
            iter(Box(PIECE, 4, 3))

    def test_too_many_lines(self):
        piece = Piece(["p"], {"k": row("p", "p")})
        self.same(Box(piece, 201).all_lines(), [(x, 0, "k") for x in range(200)])
        self.refused(TooMany, {"what": "lines", "limit": 200}, Box(piece, 202).all_lines)
        self.refused(TooMany, {"what": "lines", "limit": 200}, Box(piece, GREAT, GREAT).all_lines)

    def test_too_many_cells(self):
        piece = Piece(["p", "q"], {"k": row("p", "p")})
        self.same(Box(piece, 1, 1000).all_cells(), [(0, y, name) for y in range(1000) for name in "pq"])
        self.assertEqual(len(Box(piece, 100, 10).all_cells()), 2000)
        self.refused(TooMany, {"what": "cells", "limit": 2000}, Box(piece, 1001).all_cells)
        self.assertEqual(len(Box(Piece(["p"]), 2000).all_cells()), 2000)
        self.refused(TooMany, {"what": "cells", "limit": 2000}, Box(Piece(["p"]), 2001).all_cells)
        self.refused(TooMany, {"what": "cells", "limit": 2000}, Box(piece, 1, GREAT).all_cells)


class KeptTest(Case):

    def test_what_was_returned_may_be_changed(self):
        box = Box(PIECE, 3, 3)
        for call in (box.all_lines, box.all_cells, lambda: box.cells_of((0, 0, "r")), lambda: box.lines_at((1, 1, "p")),
                     lambda: box.common((0, 0, "r"), (0, 0, "t"))):
            before = call()
            changed = call()
            changed.append("x")
            changed[0] = None
            self.same(call(), before)

    def test_what_is_passed_is_not_changed(self):
        piece = Piece(["p", "q"], {"r": RIGHT, "t": TALL})
        box, other = Box(piece, 3, 3), Box(piece, 4, 3)
        shown = repr(box), repr(other), repr(piece)
        _ = box <= other, box >= other, box == other, box[0], (0, 0, "p") in box, box.lines, box.cells
        _ = box.all_lines(), box.all_cells(), box.common((0, 0, "r"), (0, 0, "t")), box.number_of((0, 0, "t"))
        self.refused(UnknownLine, {"value": 99}, lambda: box[99])
        self.refused(UnknownCell, {"value": 99}, box.lines_at, 99)
        self.assertEqual((repr(box), repr(other), repr(piece)), shown)


class InterfaceTest(Case):

    def test_methods_stand_in_the_class(self):
        wanted = {"is_line": ["value"], "lines_of": ["kind"], "number_of": ["line"], "cells_of": ["line"],
                  "lines_at": ["cell"], "common": ["line", "other"], "all_lines": [], "all_cells": [],
                  "__init__": ["piece", "wide", "tall"]}
        for name, parameters in wanted.items():
            self.assertEqual(list(inspect.signature(vars(Box)[name]).parameters), ["self"] + parameters)
        self.assertEqual(list(inspect.signature(Box.square).parameters), ["piece", "size"])
        for name in ("__contains__", "__getitem__", "__le__", "__ge__", "__eq__", "__repr__"):
            self.assertIn(name, vars(Box))
        for name in ("piece", "wide", "tall", "cells", "lines"):
            self.assertIsInstance(vars(Box)[name], property)
        self.assertEqual(Box.__module__, "twoeach.boxes")


if __name__ == "__main__":
    unittest.main()
