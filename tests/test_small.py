import inspect
import itertools
import random
import time
import unittest

from helpers import FAR, ODD, Case, flat_piece, made_pieces, row
from twoeach import small as module
from twoeach.boxes import Box
from twoeach.choices import least_choice
from twoeach.errors import TooMany
from twoeach.kinds import Kind
from twoeach.owners import is_paired
from twoeach.pieces import Piece
from twoeach.small import is_line_strategy, is_spoil_strategy, line_strategy, race, spoil_strategy, spoiling
from twoeach.weights import is_halved

NONE = Piece(["p"])
PAIR = flat_piece("a", k="0a 1a")
PQ = flat_piece("pq", r="0p 1q")
FORK = Piece(["a"], {"k": row("a", "a"), "l": Kind((0, 0, "a"), (0, 1, "a"))})
BOTH = flat_piece("abcdefgh", k="0a 0b 0c", l="0a 0d 0e", m="0b 0d 0f", n="0c 0e 0f", o="0a 0f 0g", p="0b 0e 0h")


def small_boxes():
    pieces = [NONE, PAIR, PQ, FORK, flat_piece("a", k="0a 1a 2a"), flat_piece("ab", k="0a 0b", l="0a 1b"),
              *made_pieces(121, 12, names=1, kinds=3, reach=2, most=4), *made_pieces(122, 12, names=2, kinds=4, reach=1, most=4),
              *made_pieces(123, 8, names=3, kinds=5, reach=1, most=3), *made_pieces(124, 8, names=6, kinds=6, reach=0, most=3)]
    boxes = [Box(piece, wide, tall) for piece in pieces for wide, tall in ((1, 1), (2, 1), (3, 1), (2, 2), (1, 4), (3, 2))]
    return [box for box in boxes if box.cells <= 6]


def great_boxes():
    return [Box(NONE, 8), Box(PAIR, 8), Box(PQ, 4), Box(PQ, 2, 2), Box(FORK, 2, 4), Box(BOTH, 1), Box(flat_piece("a", k="0a 1a 2a"), 8),
            Box(Piece(["a"], {"k": row("a", "a", "a"), "l": Kind((0, 0, "a"), (0, 1, "a"), (1, 1, "a"))}), 4, 2),
            *[Box(piece, 1) for piece in made_pieces(125, 5, names=8, kinds=6, reach=0, most=3)]]


def plain_end(box, racing, memo, first=(), second=()):
    """1, 0 or -1: how it ends if both play as well as they can, by trying all marks."""
    key = (frozenset(first), frozenset(second))
    if key not in memo:
        memo[key] = plain_end_of(box, racing, memo, first, second)
    return memo[key]


def plain_end_of(box, racing, memo, first, second):
    lines = [set(box.cells_of(line)) for line in box.all_lines()]
    if any(line <= set(first) for line in lines):
        return 1
    if racing and any(line <= set(second) for line in lines):
        return -1
    free = [cell for cell in box.all_cells() if cell not in first + second]
    if not free:
        return 0
    if len(first) == len(second):
        return max(plain_end(box, racing, memo, first + (cell,), second) for cell in free)
    return min(plain_end(box, racing, memo, first, second + (cell,)) for cell in free)


def plain_follows(box, value, mover, first=(), second=()):
    """Whether a strategy of a mover, 1 or 0, gets a line or spoils, by trying all that the other one marks."""
    lines = [set(box.cells_of(line)) for line in box.all_lines()]
    if any(line <= set(first) for line in lines):
        return mover == 1
    free = [cell for cell in box.all_cells() if cell not in first + second]
    if not free:
        return mover == 0
    is_first = len(first) == len(second)
    if is_first == (mover == 1):
        cell = value.get((tuple(sorted(first)), tuple(sorted(second))))
        if cell not in free:
            return False
        free = [cell]
    return all(plain_follows(box, value, mover, first + ((cell,) if is_first else ()), second + (() if is_first else (cell,)))
               for cell in free)


class EndsTest(Case):

    def test_some(self):
        self.same([spoiling(Box(NONE, 8)), race(Box(NONE, 8))], ["spoilt", "nobody"])
        self.same([spoiling(Box(PAIR, 2)), race(box=Box(PAIR, 2))], ["spoilt", "nobody"])
        self.same([spoiling(box=Box(PAIR, 3)), race(Box(PAIR, 3))], ["line", "first"])
        self.same([spoiling(Box(PQ, 4)), race(Box(PQ, 4))], ["spoilt", "nobody"])
        self.same([spoiling(Box(FORK, 2, 2)), race(Box(FORK, 2, 2))], ["line", "first"])

    def test_all_small_boxes(self):
        words = {1: "first", 0: "nobody", -1: "second"}
        seen = {"line": 0, "spoilt": 0}
        for box in small_boxes():
            end = plain_end(box, False, {})
            self.same(spoiling(box), "line" if end == 1 else "spoilt")
            self.same(race(box), words[plain_end(box, True, {})])
            if spoiling(box) == "spoilt":
                self.assertNotEqual(race(box), "first")
            seen[spoiling(box)] += 1
            if is_paired(box) or is_halved(box) or least_choice(box.piece) is not None:
                self.same(spoiling(box), "spoilt")
        self.assertGreater(min(seen.values()), 20)

    def test_a_line_is_not_a_race_won(self):
        # The first one gets a line, but only when the second one has a shorter one already, or must be answered.
        box = Box(flat_piece("abcdefgh", u="0d 0e 0f", v="0c 0g", w="0b 0c 0d", x="0b 0f 0g", y="0a 0b 0f"), 1)
        self.same([spoiling(box), race(box)], ["line", "nobody"])
        self.assertEqual((plain_end(box, False, {}), plain_end(box, True, {})), (1, 0))

    def test_great_boxes_within_seconds(self):
        for box in great_boxes():
            begin = time.perf_counter()
            found = [spoiling(box), race(box), line_strategy(box), spoil_strategy(box)]
            is_line_strategy(box, found[2]), is_spoil_strategy(box, found[3])
            self.assertLess(time.perf_counter() - begin, 3)
            self.same(found[0], "line" if plain_end(box, False, {}) == 1 else "spoilt")
            self.same(found[1], {1: "first", 0: "nobody", -1: "second"}[plain_end(box, True, {})])
            self.assertEqual((found[2] is None, found[3] is None), (found[0] == "spoilt", found[0] == "line"))


class StrategiesTest(Case):

    def test_some(self):
        self.same(spoil_strategy(Box(NONE, 1)), {})
        self.assertIsNone(line_strategy(Box(NONE, 1)))
        self.same(spoil_strategy(box=Box(NONE, 2)), {(((0, 0, "p"),), ()): (1, 0, "p"), (((1, 0, "p"),), ()): (0, 0, "p")})
        found = line_strategy(box=Box(PAIR, 3))
        a, b, c = Box(PAIR, 3).all_cells()
        self.same(found, {((), ()): b, ((b,), (a,)): c, ((b,), (c,)): a})

    def test_all_small_boxes(self):
        for box in small_boxes() + great_boxes()[:6]:
            gets, spoils = line_strategy(box), spoil_strategy(box)
            self.assertEqual((gets is None, spoils is None), (spoiling(box) == "spoilt", spoiling(box) == "line"))
            for found, mover, check in ((gets, 1, is_line_strategy), (spoils, 0, is_spoil_strategy)):
                if found is not None:
                    self.assertEqual(list(found), sorted(found))
                    self.assertTrue(plain_follows(box, found, mover))
                    self.assertIs(check(box, found), True)
                    other = is_spoil_strategy if mover == 1 else is_line_strategy
                    self.assertIs(other(box, found), False)
                    for (first, second), cell in found.items():
                        self.assertEqual(len(first) - len(second), 1 - mover)
                        self.assertTrue(cell in box and cell not in first + second)

    def test_changed_strategies(self):
        source = random.Random(126)
        seen = {True: 0, False: 0}
        for box in [box for box in small_boxes() if box.cells >= 3]:
            for mover, make, check in ((1, line_strategy, is_line_strategy), (0, spoil_strategy, is_spoil_strategy)):
                found = make(box)
                for key in list(found or {})[:12]:
                    less = {other: found[other] for other in found if other != key}
                    self.assertIs(check(box, less), False)
                    free = [cell for cell in box.all_cells() if cell not in key[0] + key[1]]
                    other = {**found, key: source.choice(free)}
                    wanted = plain_follows(box, other, mover)
                    self.assertIs(check(box, other), wanted)
                    seen[wanted] += 1
                    for wrong in (None, True, key, (key[0] + key[1])[:1], "p", [0, 0, "p"], (-1, 0, "a"), (9, 0, "a"),
                                  *(key[0] + key[1])[:1], (float("1"), 0, "a")[:2]):
                        self.assertIs(check(box, {**found, key: wrong}), False, wrong)
        self.assertGreater(min(seen.values()), 30)

    def test_what_else_stands_in_the_dict(self):
        box = Box(PAIR, 3)
        a, b, c = box.all_cells()
        found = line_strategy(box)
        for key in [None, 0, "", (), ((),), ((), (), ()), ((b, a), (c,)), ((a, b), (b,)), ((None,), ()), ((), ((9, 9, "a"),)), (a, b), (None, None),
                    ((b,), None), ((b,), (b,)), ((a, b, c), ()), ((a,), (c,)), ((), (a, b, c)), frozenset([1])]:
            for value in (None, a, "x", [1], (9, 9, "a")):
                self.assertIs(is_line_strategy(box, {**found, key: value}), True, key)
        spoils = spoil_strategy(Box(NONE, 2))
        for key in [None, ((), ()), (((0, 0, "p"),), ((1, 0, "p"),)), (((1, 0, "p"), (0, 0, "p")), ()), (((2, 0, "p"),), ())]:
            self.assertIs(is_spoil_strategy(Box(NONE, 2), {key: None, **spoils}), True)

    def test_true_and_false(self):
        box = Box(PAIR, 3)
        a, b, c = box.all_cells()
        found = line_strategy(box)
        fakes = [{((), ()): (True, 0, "a"), ((b,), (a,)): c, ((b,), (c,)): a}, {((), ()): (1, False, "a"), ((b,), (a,)): c, ((b,), (c,)): a},
                 {((), ()): b, (((True, 0, "a"),), (a,)): c, ((b,), (c,)): a}, {((), ()): b, ((b,), ((False, 0, "a"),)): c, ((b,), (c,)): a}]
        for fake in fakes:
            self.assertEqual(fake, found)
            self.assertIs(is_line_strategy(box, fake), False)
        fake = {(((0, 0, "p"),), ()): (True, 0, "p"), (((1, 0, "p"),), ()): (0, 0, "p")}
        self.assertIs(is_spoil_strategy(Box(NONE, 2), fake), False)
        fake = {(((0, 0, "p"),), ()): (1, 0, "p"), (((True, 0, "p"),), ()): (0, 0, "p")}
        self.assertIs(is_spoil_strategy(Box(NONE, 2), fake), False)

    def test_any_value(self):
        for value in ODD + [list(line_strategy(Box(PAIR, 3)).items()), "line", Box(PAIR, 3)]:
            for box in (Box(PAIR, 3), Box(FORK, 2, 2), Box(NONE, 2), Box(PQ, 2)):
                self.assertIs(is_line_strategy(box, value), False)
                self.assertIs(is_spoil_strategy(box=box, value=value), False)
            self.assertIs(is_line_strategy(box=Box(NONE, 1), value=value), False)
            self.assertIs(is_spoil_strategy(Box(NONE, 1), value), isinstance(value, dict))


class TooManyTest(Case):

    def test_eight_cells_and_one_more(self):
        cells = {"what": "cells", "limit": 8}
        many = [Box(NONE, 9), Box(NONE, 3, 3), Box(PAIR, 3, 3), Box(PQ, 5), Box(Piece(list("abcdefghi")), 1), Box.square(NONE, FAR), Box(PAIR, 202)]
        for box in many:
            for action in (spoiling, race, line_strategy, spoil_strategy):
                self.refused(TooMany, cells, action, box)
            for value in (None, {}, True):
                self.refused(TooMany, cells, is_line_strategy, box, value)
                self.refused(TooMany, cells, is_spoil_strategy, box, value)
        for box in (Box(NONE, 8), Box(NONE, 2, 4), Box(PQ, 2, 2), Box(Piece(list("abcdefgh")), 1)):
            self.same(spoiling(box), "spoilt")


class KeptTest(Case):

    def test_what_was_returned_may_be_changed(self):
        for make, box in ((line_strategy, Box(PAIR, 3)), (spoil_strategy, Box(NONE, 2))):
            before, changed = make(box), make(box)
            changed.clear()
            changed[None] = 1
            self.same(make(box), before)

    def test_what_is_passed_is_not_changed(self):
        box = Box(PAIR, 3)
        value = {None: 1, **line_strategy(box)}
        before = dict(value)
        is_line_strategy(box, value), is_spoil_strategy(box, value)
        self.same(value, before)
        self.assertEqual(box, Box(PAIR, 3))

    def test_parameters(self):
        wanted = {"spoiling": ["box"], "race": ["box"], "line_strategy": ["box"], "spoil_strategy": ["box"],
                  "is_line_strategy": ["box", "value"], "is_spoil_strategy": ["box", "value"]}
        for name, parameters in wanted.items():
            self.assertEqual(list(inspect.signature(getattr(module, name)).parameters), parameters)
            self.assertEqual(getattr(module, name).__module__, "twoeach.small")


if __name__ == "__main__":
    unittest.main()
