import inspect
import itertools
import unittest

from helpers import FAR, ODD, Case, flat_piece, is_served, small_flat_pieces
from test_columns import EIGHT, MANY, NONE, PQ, ROW, TALL, TALL_MANY, all_states, plain_steps
from twoeach import found as module
from twoeach.boxes import Box
from twoeach.choices import least_choice
from twoeach.columns import walk
from twoeach.errors import InvalidLength, NotFlat, TooMany
from twoeach.found import is_ranks, least_period, longest_served, plan_for, ranks, refuses
from twoeach.plans import Plan

TWO = flat_piece("a", k="0a 1a")
STAR = flat_piece("abc", k="0a 0b", l="0a 0c")
SPREAD = flat_piece("a", k="0a 2a 3a")
THREE = flat_piece("ab", u="0b 2a 2b 3a", v="0a 1a 2a 3a")
# With lines of two to six cells, and lengths of 0 to 13 that are served, no more.
REFUSED = {0: STAR, 2: TWO, 1: flat_piece("abcd", u="0c 1a 1b", v="0a 1b 1d", w="0a 0c 0d"), 6: SPREAD,
           3: flat_piece("ab", u="0b 1b 2a", v="0a 1a 1b"), 4: flat_piece("a", u="0a 1a 2a", v="0a 1a 3a"),
           5: flat_piece("ab", u="0b 2a 2b", v="0b 1b 3b"), 7: flat_piece("ab", u="0b 1b 2b", v="0a 3a 3b"),
           8: flat_piece("ab", u="0b 1a 3b", v="0a 0b 2a 3b"), 9: flat_piece("ab", u="0a 1a 2a 3a", v="0a 0b 3b"),
           11: flat_piece("ab", u="0b 1b 2b 3b", v="0a 0b 2b 3a"), 13: flat_piece("ab", u="0a 0b 2a 2b", v="0a 1b 2a 3b")}


def pairings(places, period, names, reach):
    """All partners of plans with a period, of differences of at most a reach."""
    if not places:
        yield {}
        return
    (x, name), rest = places[0], places[1:]
    yield from pairings(rest, period, names, reach)
    for gap in range(-reach, reach + 1):
        for other in names:
            back = ((x + gap) % period, other)
            if back in rest:
                for more in pairings([place for place in rest if place != back], period, names, reach):
                    yield {**more, (x, name): (gap, other), back: (-gap, name)}


def has_right_plan(piece, period):
    """By trying all plans with a period."""
    places = list(itertools.product(range(period), piece.names()))
    return any(Plan(period, partners).is_right(piece) for partners in pairings(places, period, piece.names(), piece.reach[0]))


def plain_is_ranks(piece, value):
    """By the words of the document, for values that are dicts of states and counts."""
    return () in value and all(value.get(other, value[state]) < value[state]
                               for state in value for other in plain_steps(piece, state))


class LongestTest(Case):

    def test_some(self):
        for length, piece in REFUSED.items():
            self.same(longest_served(piece), length)
        for piece in (ROW, NONE, PQ, THREE, *EIGHT):
            self.assertIsNone(longest_served(piece=piece))

    def test_boxes(self):
        seen = {True: 0, False: 0}
        for piece in small_flat_pieces() + list(REFUSED.values()):
            found = longest_served(piece)
            for length in range(1, 8 if found is None else found + 2):
                box = Box(piece, length)
                served = is_served([box.cells_of(line) for line in box.all_lines()])
                self.assertIs(served, found is None or length <= found)
                seen[served] += 1
            self.assertEqual(walk(piece, 200) is None, found is not None)
            if found is not None:
                self.assertIsNotNone(walk(piece, found))
                self.assertIsNone(walk(piece, found + 1))
        self.assertGreater(min(seen.values()), 30)


class PlansTest(Case):

    def test_some(self):
        self.same([least_period(piece) for piece in (NONE, PQ, ROW, THREE, TWO, STAR)], [1, 1, 2, 3, None, None])
        self.same(plan_for(NONE), Plan.none())
        self.same(plan_for(PQ), Plan(1, {(0, "p"): (1, "q"), (0, "q"): (-1, "p")}))
        self.assertIn(plan_for(piece=ROW), [Plan(2, {(0, "a"): (1, "a"), (1, "a"): (-1, "a")}),
                                            Plan(2, {(0, "a"): (-1, "a"), (1, "a"): (1, "a")})])
        self.assertIsNone(plan_for(TWO))
        self.same(least_period(piece=STAR), None)

    def test_right_plans(self):
        seen = {}
        for piece in small_flat_pieces() + list(REFUSED.values()) + [THREE]:
            plan, period = plan_for(piece), least_period(piece)
            self.assertEqual((plan is None, period is None), (longest_served(piece) is not None,) * 2)
            if plan is not None:
                self.assertIsInstance(plan, Plan)
                self.assertIs(plan.is_right(piece), True)
                self.same(plan.period, period)
                self.assertTrue(all(abs(gap) <= piece.reach[0] for gap, _ in plan.partners().values()))
            seen[period] = seen.get(period, 0) + 1
            if least_choice(piece) is not None:
                self.same(period, 1)
        self.assertEqual(sorted(seen, key=str), [1, 2, 3, None])

    def test_least_periods(self):
        for piece in small_flat_pieces() + [THREE]:
            period = least_period(piece)
            for shorter in range(1, 4 if period is None else period):
                if shorter * len(piece.names()) <= 6:
                    self.assertIs(has_right_plan(piece, shorter), False, piece)
            if period is not None and period * len(piece.names()) <= 4:
                self.assertIs(has_right_plan(piece, period), True)


class RanksTest(Case):

    def test_some(self):
        self.same(ranks(STAR), {(): 0})
        self.same(ranks(piece=TWO), {(): 2, (-1,): 0, (0,): 1})
        for piece in (ROW, NONE, PQ, THREE, *EIGHT):
            self.assertIsNone(ranks(piece))

    def test_ranks_refuse(self):
        seen = 0
        for piece in small_flat_pieces() + list(REFUSED.values()):
            found, longest = ranks(piece), longest_served(piece)
            self.assertEqual(found is None, longest is None)
            if found is not None:
                self.assertEqual(list(found), sorted(found))
                self.assertIs(is_ranks(piece, found), True)
                self.assertTrue(plain_is_ranks(piece, found))
                self.assertGreaterEqual(found[()], longest)
                self.assertIs(refuses(piece, found, found[()] + 1), True)
                self.assertIs(refuses(piece, found, FAR), True)
                self.assertIs(found[()] > 0 and refuses(piece, found, found[()]), False)
                seen += 1
        self.assertGreater(seen, 30)

    def test_changed_ranks(self):
        for piece in (TWO, SPREAD, REFUSED[4], REFUSED[3]):
            found = ranks(piece)
            self.assertIs(is_ranks(piece, dict(reversed(list(found.items())))), True)
            self.assertIs(is_ranks(piece, {state: 3 * count + 5 for state, count in found.items()}), True)
            self.assertIs(is_ranks(piece, {state: FAR + count for state, count in found.items()}), True)
            for state in found:
                less = {key: count for key, count in found.items() if key != state}
                self.assertIs(is_ranks(piece, less), plain_is_ranks(piece, less))
                self.assertIs(is_ranks(piece, less), False)
                for count in range(found[()] + 2):
                    value = {**found, state: count}
                    self.assertIs(is_ranks(piece, value), plain_is_ranks(piece, value))
                for count in (None, True, False, -1, "", "1", [1], (1,), {}, object(), -FAR):
                    self.assertIs(is_ranks(piece, {**found, state: count}), False)

    def test_more_states(self):
        # States to which no walk leads may be ranked, too, if their steps are.
        for piece in (TWO, SPREAD, REFUSED[4]):
            found = ranks(piece)
            for state in all_states(piece):
                for count in range(found[()] + 3):
                    value = {**found, state: count}
                    self.assertIs(is_ranks(piece, value), plain_is_ranks(piece, value), (piece, state, count))

    def test_any_value(self):
        for piece in (STAR, TWO, ROW, NONE):
            for value in ODD + [list({(): 0}.items()), [((), 0)], {(0,): 1}, {None: 0}, {(): 0, None: 0}, {(): 0, "": 0}, {(): 0, (7,): 0},
                                {(): 0, 0: 0}, {(): False}, {(): True}, {(): None}, {(): -1}, {((),): 0}, TWO]:
                self.assertIs(is_ranks(piece, value), False, value)
                self.assertIs(refuses(piece, value, FAR), False)
        for value in ({(): 0}, {(): 7}):
            self.assertIs(is_ranks(STAR, value), True)
            self.assertIs(is_ranks(piece=TWO, value=value), False)
            self.assertIs(is_ranks(NONE, value), False)
        # A key that only equals a state is none.
        value = {(): 2, (False,): 1, (-1,): 0}
        self.assertEqual(value, ranks(TWO))
        self.assertIs(is_ranks(TWO, value), False)

    def test_refuses(self):
        found = ranks(TWO)
        self.same([refuses(TWO, found, length) for length in (1, 2, 3, 4, FAR)], [False, False, True, True, True])
        self.same(refuses(piece=STAR, value={(): 4}, length=5), True)
        self.same(refuses(piece=STAR, value={(): 4}, length=4), False)
        self.same(refuses(STAR, {(): FAR}, FAR), False)
        self.same(refuses(TWO, {**found, (): 1}, FAR), False)

    def test_wrong_lengths(self):
        for wrong in [None, True, False, 0, -1, FAR + 1, "", "1", [1], (1,), {}, object(), TWO]:
            for value in (ranks(TWO), None, {}, {(): 0}):
                self.refused(InvalidLength, {"value": wrong}, refuses, TWO, value, wrong)


class LimitsTest(Case):

    CALLS = [(longest_served,), (least_period,), (plan_for,), (ranks,), (is_ranks, {(): 0}), (is_ranks, None), (refuses, {(): 0}, 1),
             (refuses, None, None)]

    def test_not_flat(self):
        for piece in (TALL, TALL_MANY):
            for action, *args in self.CALLS:
                self.refused(NotFlat, {"value": piece}, action, piece, *args)

    def test_eight_cells_and_one_more(self):
        for piece in MANY:
            for action, *args in self.CALLS:
                self.refused(TooMany, {"what": "cells", "limit": 8}, action, piece, *args)
        for piece in EIGHT:
            self.assertIs(plan_for(piece).is_right(piece), True)

    def test_all_states_of_eight_cells(self):
        # Each two places are useful; so there are as many states as there can be.
        piece = flat_piece("ab", k="0a 0b 1a 1b 2a 2b", l="0a 1b 2a 3b", m="0b 1a 2b 3a", n="0a 0b 3a", o="0a 0b 3b")
        found = longest_served(piece)
        if found is None:
            self.assertIs(plan_for(piece).is_right(piece), True)
        else:
            self.assertIs(is_ranks(piece, ranks(piece)), True)


class KeptTest(Case):

    def test_what_was_returned_may_be_changed(self):
        changed = ranks(TWO)
        changed[()] = None
        changed.pop((0,))
        self.same(ranks(TWO), {(): 2, (-1,): 0, (0,): 1})

    def test_what_is_passed_is_not_changed(self):
        value = ranks(TWO)
        is_ranks(TWO, value), refuses(TWO, value, 3), is_ranks(ROW, value)
        self.same(value, {(): 2, (-1,): 0, (0,): 1})
        self.refused(InvalidLength, {"value": 0}, refuses, TWO, value, 0)
        self.same(value, {(): 2, (-1,): 0, (0,): 1})

    def test_parameters(self):
        wanted = {"longest_served": ["piece"], "least_period": ["piece"], "plan_for": ["piece"], "ranks": ["piece"],
                  "is_ranks": ["piece", "value"], "refuses": ["piece", "value", "length"]}
        for name, parameters in wanted.items():
            self.assertEqual(list(inspect.signature(getattr(module, name)).parameters), parameters)
            self.assertEqual(getattr(module, name).__module__, "twoeach.found")


if __name__ == "__main__":
    unittest.main()
