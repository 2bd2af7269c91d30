import inspect
import itertools
import random
import unittest

from helpers import FAR, ODD, Case, flat_piece, is_served, row, small_flat_pieces
from twoeach import columns as module
from twoeach.boxes import Box
from twoeach.columns import is_state, is_walk, steps, useful_pairs, walk
from twoeach.errors import InvalidLength, InvalidState, NotFlat, TooMany
from twoeach.kinds import Kind
from twoeach.owners import is_paired
from twoeach.pieces import Piece

ROW = flat_piece("a", k="0a 1a 2a")
PQ = flat_piece("pq", r="0p 1q")
NONE = Piece(["p"])
TALL = Piece(["p", "q"], {"t": Kind((0, 0, "p"), (0, 1, "q"))})
TALL_MANY = Piece(list("abcdefghij"), {"t": Kind((0, 0, "a"), (3, 1, "b"))})
# Just beyond the limit: nine cells in a line's way, with the sizes three times three, nine times one, and more.
MANY = [Piece(list("abcdefghi")), flat_piece("abc", k="0a 2a"), flat_piece("abcde", k="0a 1a"), flat_piece("abc", k="0a 3a"),
        Piece(list("abcdefghij"), {"k": row("a", "b", "c", "d")})]
EIGHT = [Piece(list("abcdefgh")), flat_piece("ab", k="0a 0b 3a"), flat_piece("abcd", k="0a 0b 1a")]
NO_STATES = [None, True, False, 0, -1, FAR, "", "a", "ab", b"", [], [0], {}, {0: 1}, range(1), object(), NONE, (None,), ("",),
             ("0",), ((),), ([0],), (True,), (False,), (FAR,), (-2,), (-FAR,), (1,), (None, 0), (0, True), (False, 1), (0, [1])]


def useful(piece):
    """All useful pairs as tuples of two places of one line, by its entries."""
    return {(other[0] - one[0], one[2], other[2]) for kind in piece.kinds()
            for one, other in itertools.permutations(piece[kind].entries(), 2)}


def plain_is_state(piece, value):
    """By the words of the document, place by place."""
    names, pairs = piece.names(), useful(piece)
    if not isinstance(value, tuple) or any(isinstance(mate, bool) or not isinstance(mate, int) for mate in value):
        return False
    if len(value) % len(names) or len(value) // len(names) > piece.reach[0]:
        return False
    places = [(at // len(names), names[at % len(names)]) for at in range(len(value))]
    for at, mate in enumerate(value):
        if mate not in (-1, at):
            if not 0 <= mate < len(value) or value[mate] != at:
                return False
            if (places[mate][0] - places[at][0], places[at][1], places[mate][1]) not in pairs:
                return False
    return True


def all_states(piece):
    for columns in range(piece.reach[0] + 1):
        many = columns * len(piece.names())
        for value in itertools.product(range(-1, many), repeat=many):
            if plain_is_state(piece, value):
                yield value


def lots_of_pairs(places, may, must):
    """All lists of disjoint pairs of places, each with one of those that must be in it."""
    if not places:
        yield []
        return
    first, rest = places[0], places[1:]
    yield from lots_of_pairs(rest, may, must)
    for other in rest:
        if (first in must or other in must) and may(first, other):
            for more in lots_of_pairs([place for place in rest if place != other], may, must):
                yield [(first, other), *more]


def plain_steps(piece, state):
    """By the words of the document: all ways to make partners, all lines that end in the new column."""
    names, pairs = piece.names(), useful(piece)
    many = len(names)
    columns = len(state) // many
    place = {at: (at // many, names[at % many]) for at in range(len(state) + many)}
    at_of = {value: at for at, value in place.items()}
    new = list(range(len(state), len(state) + many))
    free = [at for at, mate in enumerate(state) if mate == at] + new
    lines = [[at_of[columns - piece[kind].reach[0] + across, name] for across, _, name in piece[kind].entries()]
             for kind in piece.kinds() if piece[kind].reach[0] <= columns]

    def may(one, other):
        return (place[other][0] - place[one][0], place[one][1], place[other][1]) in pairs

    found = set()
    for made in lots_of_pairs(free, may, new):
        mates = dict(enumerate(state))
        mates.update({at: at for at in new})
        for one, other in made:
            mates[one], mates[other] = other, one
        if all(any(mates[at] in line and mates[at] != at for at in line) for line in lines):
            drop = many if columns == piece.reach[0] else 0
            kept = range(drop, len(mates))
            found.add(tuple(-1 if mates[at] < drop else mates[at] - drop for at in kept))
    return sorted(found)


class UsefulTest(Case):

    def test_some(self):
        self.same(useful_pairs(NONE), [])
        self.same(useful_pairs(ROW), [(1, "a", "a"), (2, "a", "a")])
        self.same(useful_pairs(piece=PQ), [(1, "p", "q")])
        self.same(useful_pairs(flat_piece("pq", r="1p 0q", s="0p 0q 1q")), [(0, "p", "q"), (1, "p", "q"), (1, "q", "p"), (1, "q", "q")])
        self.same(useful_pairs(flat_piece("ab", r="0b 0a 3a")), [(0, "a", "b"), (3, "a", "a"), (3, "b", "a")])

    def test_all_pairs(self):
        for piece in small_flat_pieces():
            wanted = {(gap, one, other) for gap, one, other in useful(piece) if gap > 0 or gap == 0 and one < other}
            self.same(useful_pairs(piece), sorted(wanted))


class StatesTest(Case):

    def test_some(self):
        self.assertIs(is_state(ROW, ()), True)
        self.assertIs(is_state(piece=ROW, value=(0,)), True)
        for value in ((-1,), (0, 1), (1, 0), (-1, -1), (0, -1), (-1, 1)):
            self.assertIs(is_state(ROW, value), True)
        for value in ((0, 1, 2), (1, 1), (0, 0), (1, -1), (2, 0), (1,), (-1, 0), (-2, 0), (1, 0, -1)):
            self.assertIs(is_state(ROW, value), False)
        # The pair is useful one way only, and columns are told whole.
        self.assertIs(is_state(flat_piece("pq", r="0p 1q", s="0p 2p"), (3, 1, 2, 0)), True)
        self.assertIs(is_state(flat_piece("pq", r="0p 1q", s="0p 2p"), (0, 2, 1, 3)), False)
        self.assertIs(is_state(PQ, (1, 0)), False)
        for value in ((0,), (0, 1, 2), (0, 1, 2, 3)):
            self.assertIs(is_state(PQ, value), False)
        for piece in (NONE, EIGHT[0], flat_piece("ab", k="0a 0b")):
            for value, wanted in (((), True), ((0,), False), ((0, 1), False), ((-1,) * 8, False)):
                self.assertIs(is_state(piece, value), wanted)

    def test_any_value(self):
        for piece in (ROW, NONE, PQ, *EIGHT):
            for value in NO_STATES + ODD:
                self.assertIs(is_state(piece, value), plain_is_state(piece, value), value)
        for value in NO_STATES:
            self.assertIs(is_state(ROW, value), False, value)

    def test_true_and_false(self):
        for value in ((True, 0), (1, False), (False, 1), (0, True), (True, False), (-1, True)):
            self.assertIs(is_state(ROW, value), False)

    def test_small_tuples(self):
        seen = {True: 0, False: 0}
        for number, piece in enumerate(small_flat_pieces()):
            for many in range(5 if number % 5 == 0 else 4):
                for value in itertools.product(range(-2, many + 1), repeat=many):
                    wanted = plain_is_state(piece, value)
                    if is_state(piece, value) is not wanted:
                        self.fail((piece, value))
                    seen[wanted] += 1
        self.assertGreater(min(seen.values()), 500)

    def test_eight_cells_in_a_way(self):
        source = random.Random(101)
        for piece in (flat_piece("ab", k="0a 1b 3a", l="0b 2b 3a"), flat_piece("ab", k="0a 0b 1a 1b 2a 2b", l="0a 3b", m="0b 3a")):
            for _ in range(3000):
                value = list(range(6))
                for _ in range(source.randint(0, 3)):
                    one, other = source.sample(range(6), 2)
                    value[one], value[other] = source.choice([(other, one), (-1, -1), (-1, value[other]), (one, other)])
                self.assertIs(is_state(piece, tuple(value)), plain_is_state(piece, tuple(value)))


class StepsTest(Case):

    def test_some(self):
        self.same(steps(ROW, ()), [(0,)])
        self.same(steps(piece=ROW, state=(0,)), [(0, 1), (1, 0)])
        self.same(steps(ROW, (0, 1)), [(0, -1), (1, 0)])
        self.same(steps(ROW, (1, 0)), [(-1, 1)])
        self.same(steps(ROW, (-1, 1)), [(1, 0)])
        self.same(steps(ROW, (-1, -1)), [])
        self.same(steps(NONE, ()), [()])
        self.same(steps(EIGHT[0], ()), [()])
        self.same(steps(flat_piece("ab", k="0a 0b"), ()), [()])
        self.same(steps(flat_piece("abc", k="0a 0b", l="0a 0c"), ()), [])

    def test_all_states(self):
        many = 0
        for piece in small_flat_pieces():
            if len(piece.names()) * piece.reach[0] <= 4:
                for state in all_states(piece):
                    self.same(steps(piece, state), plain_steps(piece, state))
                    many += 1
        self.assertGreater(many, 500)

    def test_great_states(self):
        source = random.Random(102)
        seen = {True: 0, False: 0}
        for piece in [piece for piece in small_flat_pieces() if len(piece.names()) * (piece.reach[0] + 1) == 8]:
            state = ()
            for _ in range(12):
                found = steps(piece, state)
                self.same(found, plain_steps(piece, state))
                self.assertTrue(all(plain_is_state(piece, value) for value in found))
                state = source.choice(found) if found else ()
                seen[found != []] += 1
        self.assertGreater(min(seen.values()), 20)

    def test_states_to_which_no_walk_leads(self):
        piece = flat_piece("ab", k="0a 1b 3a", l="0b 2b 3a")
        for state in ((-1,) * 6, (0, -1, 2, 3, -1, 5), (3, -1, -1, 0, 4, 5), (0, 1, -1, 3, 4, -1)):
            self.same(steps(piece, state), plain_steps(piece, state))

    def test_wrong_states(self):
        for wrong in NO_STATES:
            self.refused(InvalidState, {"value": wrong}, steps, NONE, wrong)
            if wrong != (True,) and wrong != (False,):
                self.refused(InvalidState, {"value": wrong}, steps, PQ, wrong)
        for wrong in ((0, 1, 2), (1, 1), (1, -1), (True, 0), (1, False), (2, 0), [0], [0, 1], [1, 0]):
            self.refused(InvalidState, {"value": wrong}, steps, ROW, wrong)


class WalksTest(Case):

    def test_some(self):
        self.assertIs(is_walk(ROW, [(), (0,), (1, 0), (-1, 1)]), True)
        self.assertIs(is_walk(piece=ROW, value=((), (0,))), True)
        self.assertIs(is_walk(ROW, [()]), True)
        self.same(walk(ROW, 0), [()])
        self.same(walk(piece=NONE, length=3), [(), (), (), ()])
        self.assertIsNone(walk(flat_piece("a", k="0a 1a"), 3))
        self.assertIsNone(walk(flat_piece("abc", k="0a 0b", l="0a 0c"), 1))
        self.same(walk(flat_piece("abc", k="0a 0b", l="0a 0c"), 0), [()])

    def test_no_walks(self):
        for value in [[], (), [(0,)], [(0,), (1, 0)], [(), (1, 0)], [(), ()], [(), (0,), (0,)], [(), (0,), (0, -1)], [(), (-1,)],
                      [(), (0,), (True, 0)], [(), (False,)], [(), [0]], [[]], [(), (0,), None], [(), (0,), (1, 0), (1, 0)],
                      {(): 1}, {()}, "()", ((), (0,), ()), [None], [((),)]] + [value for value in ODD if not isinstance(value, list)]:
            self.assertIs(is_walk(ROW, value), False, value)
        for value in ODD:
            self.assertIs(is_walk(NONE, value), False, value)
            self.assertIs(is_walk(NONE, [(), value]), isinstance(value, tuple) and value == ())

    def test_boxes_are_served(self):
        seen = {True: 0, False: 0}
        for piece in small_flat_pieces():
            for length in range(1, 9):
                box = Box(piece, length)
                served = is_served([box.cells_of(line) for line in box.all_lines()])
                found = walk(piece, length)
                self.assertEqual(found is not None, served, (piece, length))
                self.assertTrue(served or not is_paired(box))
                if found is not None:
                    self.assertIs(is_walk(piece, found), True)
                    self.assertIsInstance(found, list)
                    self.assertEqual(len(found), length + 1)
                    for state, other in zip(found, found[1:]):
                        self.assertIn(other, plain_steps(piece, state))
                seen[served] += 1
        self.assertGreater(min(seen.values()), 50)

    def test_two_hundred_columns_and_one_more(self):
        for piece in (ROW, NONE, flat_piece("ab", u="0b 2a 2b 3a", v="0a 1a 2a 3a"), *EIGHT):
            found = walk(piece, 200)
            if found is not None:
                self.assertEqual(len(found), 201)
                self.assertIs(is_walk(piece, found), True)
                self.assertIs(is_walk(piece, found[:-1] + [()]), piece.reach[0] == 0)
            self.refused(InvalidLength, {"value": 201}, walk, piece, 201)
        self.assertIsNotNone(walk(ROW, 199))
        self.assertIsNone(walk(flat_piece("a", k="0a 1a"), 200))

    def test_wrong_lengths(self):
        for wrong in [None, True, False, -1, 201, FAR, "", "1", [1], (1,), {}, object(), ROW]:
            for piece in (ROW, NONE, flat_piece("a", k="0a 1a")):
                self.refused(InvalidLength, {"value": wrong}, walk, piece, wrong)


class LimitsTest(Case):

    CALLS = [(useful_pairs,), (is_state, ()), (is_state, None), (steps, ()), (steps, None), (is_walk, [()]), (is_walk, None),
             (walk, 1), (walk, None)]

    def test_not_flat(self):
        for piece in (TALL, TALL_MANY):
            for action, *args in self.CALLS:
                self.refused(NotFlat, {"value": piece}, action, piece, *args)

    def test_eight_cells_and_one_more(self):
        for piece in MANY:
            for action, *args in self.CALLS:
                self.refused(TooMany, {"what": "cells", "limit": 8}, action, piece, *args)
        for piece in EIGHT:
            self.assertIs(is_state(piece, ()), True)
            self.assertIs(is_walk(piece, [()]), True)
            self.same(steps(piece, ()), plain_steps(piece, ()))


class KeptTest(Case):

    def test_what_was_returned_may_be_changed(self):
        for call in (lambda: useful_pairs(ROW), lambda: steps(ROW, (0,)), lambda: walk(ROW, 3)):
            before, changed = call(), call()
            changed.append(1)
            changed[0] = None
            self.same(call(), before)

    def test_what_is_passed_is_not_changed(self):
        value, shown = [(), (0,)], repr(ROW)
        is_walk(ROW, value), is_state(ROW, value), walk(ROW, 5), steps(ROW, ()), useful_pairs(ROW)
        self.same((value, repr(ROW)), ([(), (0,)], shown))
        wrong = [0, 1]
        self.refused(InvalidState, {"value": [0, 1]}, steps, ROW, wrong)
        self.same(wrong, [0, 1])

    def test_parameters(self):
        wanted = {"useful_pairs": ["piece"], "is_state": ["piece", "value"], "steps": ["piece", "state"],
                  "is_walk": ["piece", "value"], "walk": ["piece", "length"]}
        for name, parameters in wanted.items():
            self.assertEqual(list(inspect.signature(getattr(module, name)).parameters), parameters)
            self.assertEqual(getattr(module, name).__module__, "twoeach.columns")


if __name__ == "__main__":
    unittest.main()
