import inspect
import itertools
import unittest

from helpers import FIRST, ODD, Case, made_pieces, row, subsets
from twoeach import choices as module
from twoeach.boxes import Box
from twoeach.choices import (
    greatest_lack, greatest_set, how_many_choices, is_choice, is_poor_set, least_choice, least_set, possible, set_lack,
    sure)
from twoeach.errors import InvalidSet
from twoeach.kinds import Kind
from twoeach.owners import is_owners, is_paired
from twoeach.pieces import Piece

P, Q, Z = (0, 0, "p"), (1, 0, "q"), (2, 0, "z")
ONE = Piece(["p", "q", "z"], {"k": Kind(P, Q, Z)})
TWO = Piece(["p", "q", "y", "z"], {"r": Kind(P, Q, (0, 0, "q"), (1, 0, "z")), "t": Kind(P, (0, 1, "y"), (0, 1, "z"))})
POOR = Piece(["p", "q"], {"r": row("p", "q"), "t": Kind((0, 0, "p"), (0, 1, "p"))})
NONE = Piece(["p"])
TEN = Piece(list(FIRST[:10]), {name: Kind(*[(0, 0, other) for other in FIRST[at:at + 6]])
                               for at, name in enumerate("uvwxy")})


def small_pieces():
    return [ONE, TWO, POOR, NONE, Piece(["p"], {"k": row("p", "p")}),
            *made_pieces(11, 40, names=4, kinds=2, reach=1, most=4), *made_pieces(12, 60, names=6, kinds=3, reach=1, most=4),
            *made_pieces(13, 40, names=8, kinds=4, reach=1, most=3), *made_pieces(14, 30, names=4, kinds=6, reach=1, most=3),
            *made_pieces(15, 30, names=7, kinds=4, reach=0, most=3),
            *made_pieces(16, 60, names=7, kinds=2, reach=1, most=6), *made_pieces(17, 60, names=9, kinds=3, reach=0, most=6)]


def plain_choices(piece):
    """All choices with sorted tuples, the least one first."""
    kinds = piece.kinds()
    out = []
    for pairs in itertools.product(*[itertools.combinations(piece[kind].entries(), 2) for kind in kinds]):
        names = [entry[2] for pair in pairs for entry in pair]
        if len(names) == len(set(names)):
            out.append(dict(zip(kinds, pairs)))
    return sorted(out, key=lambda choice: [choice[kind] for kind in kinds])


def plain_lacks(piece):
    return [(kinds, 2 * len(kinds) - len({name for kind in kinds for _, _, name in piece[kind].entries()}))
            for kinds in subsets(piece.kinds())]


class ChoicesTest(Case):

    def test_least(self):
        self.same(least_choice(ONE), {"k": (P, Q)})
        self.same(least_choice(TWO), {"r": (P, (0, 0, "q")), "t": ((0, 1, "y"), (0, 1, "z"))})
        self.same(least_choice(NONE), {})
        self.assertIsNone(least_choice(POOR))
        self.assertIsNone(least_choice(Piece(["p"], {"k": row("p", "p")})))

    def test_the_first_kind_gives_way(self):
        piece = Piece(list("abcd"), {"k": row("a", "b", "c", "d"), "l": row("a", "b")})
        self.same(least_choice(piece), {"k": ((2, 0, "c"), (3, 0, "d")), "l": ((0, 0, "a"), (1, 0, "b"))})

    def test_all_choices(self):
        seen = {"some": 0, "none": 0, "several": 0}
        for piece in small_pieces():
            found = plain_choices(piece)
            self.same(least_choice(piece), found[0] if found else None)
            self.same(how_many_choices(piece), len(found))
            chosen = [[(kind, entry) for kind, pair in choice.items() for entry in pair] for choice in found]
            every = [(kind, entry) for kind in piece.kinds() for entry in piece[kind].entries()]
            self.same(possible(piece), [each for each in every if any(each in some for some in chosen)])
            self.same(sure(piece), [each for each in every if chosen and all(each in some for some in chosen)])
            for choice in found:
                self.assertIs(is_choice(piece, choice), True)
            seen["some" if found else "none"] += 1
            seen["several"] += len(found) > 1
        self.assertGreater(min(seen.values()), 20)

    def test_all_pairs_are_tried(self):
        for piece in small_pieces()[:60]:
            kinds, right = piece.kinds(), plain_choices(piece)
            if len(kinds) <= 2:
                for pairs in itertools.product(*[itertools.product(piece[kind].entries(), repeat=2) for kind in kinds]):
                    choice = {kind: tuple(sorted(pair)) for kind, pair in zip(kinds, pairs)}
                    self.assertIs(is_choice(piece, dict(zip(kinds, pairs))), choice in right)

    def test_pieces_without_kinds(self):
        for names in (["p"], list(FIRST[:10])):
            piece = Piece(names)
            self.same([least_choice(piece), how_many_choices(piece), possible(piece), sure(piece)], [{}, 1, [], []])
            self.assertIs(is_choice(piece, {}), True)

    def test_without_a_choice(self):
        self.same([how_many_choices(POOR), possible(POOR), sure(POOR)], [0, [], []])
        self.assertIs(is_choice(POOR, {}), False)

    def test_possible_and_sure(self):
        self.same(possible(TWO), [("r", P), ("r", (0, 0, "q")), ("r", (1, 0, "q")), ("r", (1, 0, "z")),
                                  ("t", P), ("t", (0, 1, "y")), ("t", (0, 1, "z"))])
        self.same(sure(TWO), [("t", (0, 1, "y"))])
        self.same(sure(Piece(["p", "q"], {"k": row("p", "q")})), [("k", P), ("k", Q)])
        self.same(sure(Piece(["p", "q"], {"k": row("p", "q", "q")})), [("k", P)])

    def test_ten_names_and_six_kinds(self):
        self.assertEqual(len(plain_choices(TEN - "y")), how_many_choices(TEN - "y"))
        # The sixth one wants two names more than there are.
        six = TEN + ("z", Kind(*[(1, 0, name) for name in FIRST[:5]] + [(0, 0, "a")]))
        self.same([least_choice(six), how_many_choices(six), possible(six), greatest_lack(six)], [None, 0, [], 2])
        self.assertIs(is_choice(TEN, least_choice(TEN)), True)
        self.assertEqual(greatest_lack(TEN), 0)
        self.assertEqual(how_many_choices(TEN), len([None for pairs in itertools.product(
            *[list(itertools.combinations(FIRST[at:at + 6], 2)) for at in range(5)])
            if len({name for pair in pairs for name in pair}) == 10]))

    def test_a_choice_pairs_each_box(self):
        for piece in small_pieces()[::7]:
            choice = least_choice(piece)
            for wide, tall in ((1, 1), (3, 2), (4, 3)):
                box = Box(piece, wide, tall)
                if choice is not None:
                    self.assertIs(is_paired(box), True)
                    owned = {line: tuple((line[0] + across, line[1] + up, name) for across, up, name in choice[line[2]])
                             for line in box.all_lines()}
                    self.assertIs(is_owners(box, owned), True)


class IsChoiceTest(Case):

    def test_any_sequence(self):
        choice = {"r": (P, (0, 0, "q")), "t": ((0, 1, "y"), (0, 1, "z"))}
        self.assertIs(is_choice(TWO, choice), True)
        self.assertIs(is_choice(piece=TWO, value={"t": ((0, 1, "z"), (0, 1, "y")), "r": ((1, 0, "q"), P)}), True)

    def test_any_value(self):
        for value in ODD + [[("k", (P, Q))], ("k", (P, Q)), {"k"}, "k", ONE, [], (), [{}]]:
            for piece in (ONE, TWO, POOR):
                self.assertIs(is_choice(piece, value), False)
            self.assertIs(is_choice(NONE, value), isinstance(value, dict) and value == {})

    def test_wrong_kinds(self):
        for value in ({}, {"l": (P, Q)}, {"k": (P, Q), "l": (P, Q)}, {None: (P, Q)}, {True: (P, Q)}, {("k",): (P, Q)},
                      {"k": (P, Q), None: ()}, {"K": (P, Q)}, {1: (P, Q)}, {"p": (P, Q)}):
            self.assertIs(is_choice(ONE, value), False)
        self.assertIs(is_choice(TWO, {"r": (P, Q)}), False)
        self.assertIs(is_choice(NONE, {"k": (P, Q)}), False)

    def test_wrong_pairs(self):
        for value in ODD + [[P, Q], (P,), (P, Q, Z), (P, P), P, (P, None), (None, Q), (P, [1, 0, "q"]), ([0, 0, "p"], Q),
                            (P, (0, 0, "q")), (P, (1, 0, "p")), (P, (3, 0, "q")), (P, (1, 0)), {P: 1, Q: 2}, {P, Q}, "pq",
                            ("p", "q"), ((False, 0, "p"), Q), (P, (True, 0, "q")), (P, (1, False, "q")), (P, "q"), (P, {})]:
            self.assertIs(is_choice(ONE, {"k": value}), False, value)
        self.assertIs(is_choice(ONE, {"k": (P, Q)}) and is_choice(ONE, {"k": (Z, P)}), True)

    def test_a_name_twice(self):
        piece = Piece(["p", "q"], {"k": row("p", "q", "q")})
        self.assertIs(is_choice(piece, {"k": ((1, 0, "q"), (2, 0, "q"))}), False)
        self.assertIs(is_choice(piece, {"k": ((0, 0, "p"), (2, 0, "q"))}), True)
        self.assertIs(is_choice(TWO, {"r": (P, Q), "t": (P, (0, 1, "y"))}), False)
        self.assertIs(is_choice(TWO, {"r": (P, (1, 0, "z")), "t": ((0, 1, "y"), (0, 1, "z"))}), False)


class SetsTest(Case):

    def test_set_lack(self):
        self.same([set_lack(POOR, []), set_lack(POOR, ["r"]), set_lack(POOR, ("t",)), set_lack(POOR, ["t", "r"])], [0, 0, 1, 2])
        self.same(set_lack(piece=TWO, kinds=["r", "t"]), 0)
        self.same(set_lack(Piece(list("abcdef"), {"k": row("a", "b", "c", "d")}), ["k"]), -2)
        self.same([greatest_lack(POOR), least_set(POOR), greatest_set(POOR)], [2, ["r", "t"], ["r", "t"]])
        self.same([greatest_lack(NONE), least_set(NONE), greatest_set(NONE)], [0, [], []])

    def test_all_sets(self):
        seen = {"poor": 0, "rich": 0, "apart": 0, "part": 0}
        for piece in small_pieces():
            lacks = plain_lacks(piece)
            most = max(lack for _, lack in lacks)
            best = [kinds for kinds, lack in lacks if lack == most]
            self.same(greatest_lack(piece), most)
            self.same(least_set(piece), sorted(min(best, key=len)))
            self.same(greatest_set(piece), sorted(max(best, key=len)))
            self.assertTrue(all(set(least_set(piece)) <= set(kinds) <= set(greatest_set(piece)) for kinds in best))
            self.assertEqual(least_choice(piece) is None, most > 0)
            for kinds, lack in lacks:
                self.same(set_lack(piece, list(reversed(kinds))), lack)
                self.assertIs(is_poor_set(piece, kinds), lack > 0)
                self.assertIs(is_poor_set(piece, tuple(reversed(kinds))), lack > 0)
            seen["poor" if most > 0 else "rich"] += 1
            seen["apart"] += len(min(best, key=len)) < len(max(best, key=len))
            seen["part"] += 0 < len(max(best, key=len)) < len(piece)
        self.assertGreater(min(seen.values()), 5)

    def test_wrong_sets(self):
        for wrong in (None, True, 0, "", "r", "rt", {}, {"r": 1}, {"r"}, range(0), object(), POOR):
            self.refused(InvalidSet, {"position": None}, set_lack, POOR, wrong)
        for wrong in ODD + ["p", "q", "z", "rt", 1, POOR["r"], ("r",), ["r"]]:
            self.refused(InvalidSet, {"position": 0}, set_lack, POOR, [wrong, "r", "r"])
            self.refused(InvalidSet, {"position": 1}, set_lack, POOR, ("r", wrong, "r"))
        self.refused(InvalidSet, {"position": 1}, set_lack, POOR, ["r", "r"])
        self.refused(InvalidSet, {"position": 2}, set_lack, POOR, ["t", "r", "t", None])
        self.refused(InvalidSet, {"position": 0}, set_lack, NONE, ["r"])

    def test_poor_sets(self):
        self.assertIs(is_poor_set(piece=POOR, value=["t"]), True)
        for value in ODD + [[], ["r"], ["t", "t"], ["r", "t", "r"], ["t", None], ["t", "x"], {"t": 1}, {"t"}, "t", "rt", [["t"]],
                            ["t", True], ["t", []], POOR]:
            self.assertIs(is_poor_set(POOR, value), False)


class KeptTest(Case):

    def test_what_was_returned_may_be_changed(self):
        for call in (lambda: possible(TWO), lambda: sure(TWO), lambda: least_set(POOR), lambda: greatest_set(POOR)):
            before = call()
            changed = call()
            changed.append("x")
            changed[0] = None
            self.same(call(), before)
        choice = least_choice(TWO)
        choice["r"] = None
        self.same(least_choice(TWO), {"r": (P, (0, 0, "q")), "t": ((0, 1, "y"), (0, 1, "z"))})

    def test_keys_are_sorted(self):
        piece = Piece(list("abcdef"), {"z": row("a", "b"), "m": row("c", "d"), "a": row("e", "f")})
        self.assertEqual(list(least_choice(piece)), ["a", "m", "z"])

    def test_what_is_passed_is_not_changed(self):
        value, kinds, shown = {"t": (Q, P), "r": (P, Q)}, ["t", "r"], repr(TWO)
        is_choice(TWO, value), set_lack(TWO, kinds), is_poor_set(TWO, kinds), least_choice(TWO), how_many_choices(TWO)
        possible(TWO), sure(TWO), least_set(TWO), greatest_set(TWO), greatest_lack(TWO)
        self.same((value, kinds, repr(TWO)), ({"t": (Q, P), "r": (P, Q)}, ["t", "r"], shown))
        wrong = ["t", "t"]
        self.refused(InvalidSet, {"position": 1}, set_lack, TWO, wrong)
        self.same(wrong, ["t", "t"])

    def test_parameters(self):
        wanted = {"is_choice": ["piece", "value"], "least_choice": ["piece"], "how_many_choices": ["piece"],
                  "possible": ["piece"], "sure": ["piece"], "set_lack": ["piece", "kinds"], "greatest_lack": ["piece"],
                  "least_set": ["piece"], "greatest_set": ["piece"], "is_poor_set": ["piece", "value"]}
        for name, parameters in wanted.items():
            self.assertEqual(list(inspect.signature(getattr(module, name)).parameters), parameters)
            self.assertEqual(getattr(module, name).__module__, "twoeach.choices")


if __name__ == "__main__":
    unittest.main()
