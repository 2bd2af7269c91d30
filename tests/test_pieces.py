import inspect
import itertools
import random
import unittest

from helpers import FIRST, ODD, Case, made_piece, made_pieces, row
from twoeach.errors import (
    InvalidKinds, InvalidNames, InvalidRenaming, KindTaken, SameKinds, TooMany, UnknownKind, UnknownName)
from twoeach.kinds import Kind
from twoeach.pieces import Piece

RIGHT = Kind((3, 1, "p"), (4, 1, "q"))
TALL = Kind((0, 0, "p"), (0, 1, "p"))
PQ = {"r": RIGHT, "t": TALL}
NO_NAMES = [None, True, False, 0, 1, -1, "", "P", "p ", "p\n", "abcdefghi", "p1", b"p", ["p"], ("p",), {"p": 1}, {},
            object(), Piece, RIGHT]


def many_kinds(many):
    """So many different kinds of the name p."""
    return {FIRST[at]: Kind((0, 0, "p"), (at % 4, 1 + at // 4, "p")) for at in range(many)}


def plain_renamings(one, other):
    """All renamings, tried one by one, the least one first."""
    out = []
    for new in itertools.permutations(other.names()):
        names = dict(zip(one.names(), new))
        if len(one.names()) == len(new) and len(one) == len(other):
            led = [one[kind].renamed(names) for kind in one.kinds()]
            if all(other[kind] in led for kind in other.kinds()):
                out.append(names)
    return out


class ConstructorTest(Case):

    def test_names(self):
        self.same(Piece(["q", "p"]).names(), ["p", "q"])
        self.same(Piece(("b", "abcdefgh", "ab", "a")).names(), ["a", "ab", "abcdefgh", "b"])
        self.same(Piece(names=["q", "p"], kinds=None), Piece(["p", "q"], {}))

    def test_no_list_of_names(self):
        for value in (None, True, 0, "", "p", "pq", b"p", {}, {"p": 1}, {"p"}, range(1), object(), RIGHT, [], ()):
            self.refused(InvalidNames, {"position": None}, Piece, value)

    def test_wrong_names_at_each_place(self):
        for wrong in NO_NAMES:
            for at in range(3):
                names = ["a", "b", "c"]
                names[at] = wrong
                self.refused(InvalidNames, {"position": at}, Piece, names)
                self.refused(InvalidNames, {"position": at}, Piece, tuple(names))

    def test_a_name_twice(self):
        self.refused(InvalidNames, {"position": 1}, Piece, ["p", "p"])
        self.refused(InvalidNames, {"position": 3}, Piece, ["p", "q", "r", "q", "p"])
        self.refused(InvalidNames, {"position": 2}, Piece, ["p", "q", "p", None])
        self.refused(InvalidNames, {"position": 1}, Piece, ["p", None, "p"])

    def test_numbers_of_names(self):
        self.same(Piece(["p"]).names(), ["p"])
        self.same(Piece(list(FIRST[:10])).names(), list(FIRST[:10]))
        self.refused(TooMany, {"what": "names", "limit": 10}, Piece, list(FIRST[:11]))
        self.refused(InvalidNames, {"position": 11}, Piece, list(FIRST[:11]) + ["a"])
        self.refused(InvalidNames, {"position": 10}, Piece, list(FIRST[:10]) + [None])

    def test_no_kinds(self):
        for wrong in ODD + [RIGHT, [("r", RIGHT)], {"r": None}, {"r": RIGHT.entries()}, {1: RIGHT}, {None: RIGHT},
                            {"": RIGHT}, {"R": RIGHT}, {"abcdefghi": RIGHT}, {("r",): RIGHT}, {True: RIGHT},
                            {"r": RIGHT, "t": Kind}, {"r": [RIGHT]}, {"r": (RIGHT,)}, "r", ["r"], 1]:
            if wrong is None or wrong == {}:
                self.assertEqual(Piece(["p", "q"], wrong).kinds(), [])
            else:
                self.refused(InvalidKinds, {"value": wrong}, Piece, ["p", "q"], wrong)

    def test_names_of_kinds(self):
        self.same(Piece(["p", "q"], {"z": RIGHT, "abcdefgh": TALL, "p": row("q", "q")}).kinds(), ["abcdefgh", "p", "z"])

    def test_numbers_of_kinds(self):
        for many in range(7):
            self.assertEqual(len(Piece(["p"], many_kinds(many))), many)
        for many in (7, 11):
            self.refused(TooMany, {"what": "kinds", "limit": 6}, Piece, ["p"], many_kinds(many))

    def test_unknown_names(self):
        self.refused(UnknownName, {"value": "q"}, Piece, ["p"], {"r": RIGHT})
        self.refused(UnknownName, {"value": "b"}, Piece, ["a"], {"x": row("c", "a"), "y": row("z", "b", "a")})
        self.refused(UnknownName, {"value": "b"}, Piece, ["a"], {"y": row("z", "b", "a"), "x": row("c", "a")})
        self.refused(UnknownName, {"value": "p"}, Piece, ["abcdefgh", "pp"], {"r": RIGHT})

    def test_same_kinds(self):
        again = Kind((0, 0, "p"), (1, 0, "q"))
        self.refused(SameKinds, {"one": "r", "other": "s"}, Piece, ["p", "q"], {"s": again, "r": RIGHT})
        self.refused(SameKinds, {"one": "r", "other": "s"}, Piece, ["p", "q"], {"t": RIGHT, "s": again, "r": RIGHT})
        self.refused(SameKinds, {"one": "b", "other": "d"}, Piece, ["p", "q"],
                     {"a": row("q", "q"), "b": TALL, "c": RIGHT, "d": TALL, "e": RIGHT})
        self.refused(SameKinds, {"one": "a", "other": "f"}, Piece, ["p", "q"],
                     {"a": TALL, "b": RIGHT, "c": RIGHT, "f": TALL, "g": TALL})

    def test_the_sequence_of_the_errors(self):
        many = {**many_kinds(7), "x": row("q", "r"), "y": row("q", "r")}
        eleven = list(FIRST[:11])
        self.refused(InvalidNames, {"position": None}, Piece, [], {"r": None})
        self.refused(InvalidNames, {"position": 1}, Piece, ["p", "p"], {"r": None})
        self.refused(InvalidKinds, {"value": {"r": None}}, Piece, eleven, {"r": None})
        self.refused(InvalidKinds, {"value": {**many, "z": 1}}, Piece, ["p"], {**many, "z": 1})
        self.refused(UnknownName, {"value": "p"}, Piece, eleven, many)
        self.refused(UnknownName, {"value": "q"}, Piece, ["p"], many)
        self.refused(SameKinds, {"one": "x", "other": "y"}, Piece, ["p", "q", "r"], many)
        self.refused(SameKinds, {"one": "x", "other": "y"}, Piece, ["p", "q", "r"] + eleven[:8], many)
        del many["y"]
        self.refused(TooMany, {"what": "names", "limit": 10}, Piece, ["p", "q", "r"] + eleven[:8], many)
        self.refused(TooMany, {"what": "kinds", "limit": 6}, Piece, ["p", "q", "r"] + eleven[:7], many)

    def test_class_values(self):
        self.assertEqual((Piece.MOST_NAMES, Piece.MOST_KINDS), (10, 6))
        self.assertEqual((Piece(["p"]).MOST_NAMES, Piece(["p"]).MOST_KINDS), (10, 6))


class PartsTest(Case):

    def test_the_example_of_the_document(self):
        piece = Piece(["q", "p"], PQ)
        self.same([piece.names(), piece.kinds(), piece.reach, piece.is_flat], [["p", "q"], ["r", "t"], (1, 1), False])
        self.same((piece - "t").renaming(Piece(["b", "a"], {"z": Kind((0, 0, "b"), (1, 0, "a"))})), {"p": "b", "q": "a"})

    def test_get(self):
        piece = Piece(["p", "q"], PQ)
        self.assertEqual(piece["r"], RIGHT)
        self.assertEqual(piece["t"], TALL)
        for wrong in ODD + ["p", "q", "rt", 1, ("r",), ["r"], RIGHT]:
            self.refused(UnknownKind, {"value": wrong}, lambda: piece[wrong])

    def test_in(self):
        piece = Piece(["p", "q"], PQ)
        self.assertIs("r" in piece, True)
        self.assertIs("t" in piece, True)
        for value in ODD + ["p", "q", "rt", 1, ("r",), ["r"], RIGHT, piece]:
            self.assertIs(value in piece, False)

    def test_not_iterated_over(self):
        with self.assertRaises(TypeError):
            iter(Piece(["p", "q"], PQ))

    def test_len(self):
        self.assertEqual([len(Piece(["p"])), len(Piece(["p", "q"], PQ))], [0, 2])

    def test_reach(self):
        self.same(Piece(["p"]).reach, (0, 0))
        self.same(Piece(["p", "q"], PQ).reach, (1, 1))
        self.same(Piece(["p"], {"a": Kind((0, 0, "p"), (3, 1, "p")), "b": Kind((0, 0, "p"), (1, 2, "p"))}).reach, (3, 2))
        self.same(Piece(["p", "q"], {"a": Kind((0, 0, "p"), (0, 0, "q"))}).reach, (0, 0))

    def test_flat(self):
        self.assertIs(Piece(["p"]).is_flat, True)
        self.assertIs(Piece(["p", "q"], {"r": RIGHT}).is_flat, True)
        self.assertIs(Piece(["p", "q"], PQ).is_flat, False)

    def test_properties_are_not_set(self):
        piece = Piece(["p", "q"], PQ)
        for name in ("reach", "is_flat"):
            with self.assertRaises(AttributeError):
                setattr(piece, name, 1)

    def test_equal(self):
        piece = Piece(["p", "q"], PQ)
        self.assertTrue(piece == Piece(("q", "p"), {"t": TALL, "r": Kind((0, 0, "p"), (1, 0, "q"))}))
        self.assertFalse(piece != Piece(("q", "p"), {"t": TALL, "r": RIGHT}))
        for other in (Piece(["p", "q"]), Piece(["p", "q"], {"r": RIGHT}), Piece(["p", "q", "r"], PQ),
                      Piece(["p", "q"], {"r": TALL, "t": RIGHT}), Piece(["p", "q"], {"s": RIGHT, "t": TALL})):
            self.assertFalse(piece == other)
            self.assertTrue(piece != other)

    def test_not_equal_to_values_of_another_kind(self):
        for piece in (Piece(["p"]), Piece(["p", "q"], PQ)):
            for value in ODD + [repr(piece), piece.names(), piece.kinds(), PQ, len(piece), RIGHT]:
                self.assertIs(piece == value, False)
                self.assertIs(value == piece, False)

    def test_repr(self):
        self.assertEqual(repr(Piece(["p"])), "Piece(['p'])")
        self.assertEqual(repr(Piece(["q", "p"], {"k": Kind((1, 0, "q"), (0, 0, "p"))})),
                         "Piece(['p', 'q'], {'k': Kind((0, 0, 'p'), (1, 0, 'q'))})")
        self.assertEqual(repr(Piece(["q", "p"], {"t": TALL, "r": RIGHT})),
                         "Piece(['p', 'q'], {'r': Kind((0, 0, 'p'), (1, 0, 'q')), 't': Kind((0, 0, 'p'), (0, 1, 'p'))})")
        for piece in made_pieces(1, 20, names=3, kinds=4):
            self.assertEqual(eval(repr(piece), {"Piece": Piece, "Kind": Kind}), piece)


class MoreKindsTest(Case):

    def test_plus(self):
        piece = Piece(["p", "q"], {"t": TALL})
        self.assertEqual(piece + ("r", RIGHT), Piece(["p", "q"], PQ))
        self.assertEqual(("r", RIGHT) + piece, Piece(["p", "q"], PQ))
        self.same((("a", RIGHT) + piece).kinds(), ["a", "t"])
        self.assertEqual(piece, Piece(["p", "q"], {"t": TALL}))

    def both(self, wanted, parts, piece, pair):
        self.refused(wanted, parts, lambda: piece + pair)
        self.refused(wanted, parts, lambda: pair + piece)

    def test_no_pair(self):
        piece = Piece(["p", "q"], {"t": TALL})
        for wrong in ODD + ["r", 1, RIGHT, ["r", RIGHT], ("r", RIGHT, 1), ("r",), (RIGHT, "r"), ("R", RIGHT), ("", RIGHT),
                            ("abcdefghi", RIGHT), (1, RIGHT), (True, RIGHT), (None, RIGHT), ("r", None), ("r", "r"),
                            ("r", [RIGHT]), (["r"], RIGHT), {"r": RIGHT}, ("t", None), ("r", piece)]:
            self.both(InvalidKinds, {"value": wrong}, piece, wrong)
        self.refused(InvalidKinds, {"value": piece}, lambda: piece + piece)

    def test_taken(self):
        piece = Piece(["p", "q"], PQ)
        self.both(KindTaken, {"value": "r"}, piece, ("r", TALL))
        self.both(KindTaken, {"value": "t"}, piece, ("t", row("z", "z")))

    def test_unknown_and_same_and_too_many(self):
        piece = Piece(["p", "q"], PQ)
        self.both(UnknownName, {"value": "a"}, piece, ("x", row("b", "p", "a")))
        self.both(SameKinds, {"one": "r", "other": "x"}, piece, ("x", RIGHT))
        self.both(SameKinds, {"one": "a", "other": "r"}, piece, ("a", RIGHT))
        full = Piece(["p"], many_kinds(6))
        self.both(TooMany, {"what": "kinds", "limit": 6}, full, ("z", Kind((0, 0, "p"), (3, 3, "p"))))
        self.both(KindTaken, {"value": "a"}, full, ("a", Kind((0, 0, "p"), (3, 3, "p"))))
        self.both(SameKinds, {"one": "a", "other": "z"}, full, ("z", full["a"]))
        self.both(UnknownName, {"value": "q"}, full, ("z", row("q", "q")))
        self.assertEqual(full, Piece(["p"], many_kinds(6)))

    def test_minus(self):
        piece = Piece(["p", "q"], PQ)
        self.assertEqual(piece - "t", Piece(["p", "q"], {"r": RIGHT}))
        self.assertEqual(piece - "t" - "r", Piece(["p", "q"]))
        for wrong in ODD + ["p", "rt", RIGHT, ("r", RIGHT), ["r"], 1]:
            self.refused(UnknownKind, {"value": wrong}, lambda: piece - wrong)
        self.assertEqual(piece, Piece(["p", "q"], PQ))

    def test_both(self):
        one, other = Piece(["q", "a"], {"x": row("a", "q")}), Piece(["q", "b"], {"k": row("q", "b"), "y": row("q", "q")})
        self.assertEqual(one | other, Piece(["a", "b", "q"], {"k": row("q", "b"), "x": row("a", "q"), "y": row("q", "q")}))
        self.assertEqual(one | other, other | one)
        self.same((one | other).names(), ["a", "b", "q"])
        self.same((one | other).kinds(), ["k", "x", "y"])
        self.assertEqual(one | Piece(["a"]), one)

    def test_both_refused(self):
        one = Piece(["p", "q"], {"b": RIGHT, "c": TALL, "d": row("q", "q")})
        self.refused(KindTaken, {"value": "c"}, lambda: one | Piece(["p"], {"d": TALL, "c": row("p", "p")}))
        self.refused(KindTaken, {"value": "b"}, lambda: one | one)
        self.refused(SameKinds, {"one": "a", "other": "c"}, lambda: one | Piece(["p"], {"a": TALL}))
        self.refused(SameKinds, {"one": "b", "other": "z"},
                     lambda: one | Piece(["p", "q"], {"x": TALL, "y": row("q", "q"), "z": RIGHT}))
        eleven = Piece(list(FIRST[:9]))
        self.refused(TooMany, {"what": "names", "limit": 10}, lambda: one | eleven)
        self.assertEqual(len((one | Piece(list(FIRST[:8]))).names()), 10)
        full = Piece(["p"], {name + name: kind for name, kind in many_kinds(6).items()})
        self.refused(SameKinds, {"one": "aa", "other": "c"}, lambda: one | full)
        self.refused(TooMany, {"what": "kinds", "limit": 6}, lambda: (one - "c") | full)
        self.refused(TooMany, {"what": "names", "limit": 10}, lambda: one | (eleven + ("z", row("a", "a"))
                                                                             + ("y", row("b", "a")) + ("x", row("c", "a"))
                                                                             + ("w", row("d", "a"))))
        self.refused(KindTaken, {"value": "b"}, lambda: one | (eleven + ("b", row("a", "a"))))
        self.assertEqual(len((one - "c" - "d") | (full - "aa")), 6)


class HoldsTest(Case):

    def test_holds(self):
        piece = Piece(["p", "q"], {"a": row("p", "p", "p"), "b": row("p", "p"), "c": RIGHT, "d": row("p", "p", "q")})
        self.same(piece.holds(), [("a", "b"), ("d", "b"), ("d", "c")])
        self.assertEqual(piece.core(), Piece(["p", "q"], {"b": row("p", "p"), "c": RIGHT}))
        self.same(Piece(["p"]).holds(), [])
        self.assertEqual(Piece(["p"]).core(), Piece(["p"]))

    def test_the_names_stay_in_the_core(self):
        piece = Piece(["p", "q", "z"], {"a": Kind((0, 0, "p"), (0, 1, "p"), (1, 1, "q")), "b": TALL})
        self.assertEqual(piece.core(), Piece(["p", "q", "z"], {"b": TALL}))

    def test_by_all_shifts(self):
        for piece in made_pieces(2, 60, names=2, kinds=6, most=4):
            holds = []
            for one, other in itertools.permutations(piece.kinds(), 2):
                if any(all((across + right, up + upwards, name) in piece[one].entries()
                           for across, up, name in piece[other].entries())
                       for right in range(-4, 5) for upwards in range(-4, 5)):
                    holds.append((one, other))
            self.same(piece.holds(), sorted(holds))
            kept = [kind for kind in piece.kinds() if kind not in [one for one, _ in holds]]
            self.assertEqual(piece.core(), Piece(piece.names(), {kind: piece[kind] for kind in kept}))
            self.assertEqual(piece.core().core(), piece.core())


class StruckTest(Case):

    def test_struck(self):
        piece = Piece(["p", "q", "z"], PQ)
        self.assertEqual(piece.struck(["q"]), Piece(["p", "q", "z"], {"t": TALL}))
        self.assertEqual(piece.struck(("p",)), Piece(["p", "q", "z"]))
        self.assertEqual(piece.struck(names=["z"]), piece)
        self.assertEqual(piece.struck([]), piece)
        self.assertEqual(piece.struck(["z", "q", "p"]), Piece(["p", "q", "z"]))

    def test_wrong_names(self):
        piece = Piece(["p", "q", "z"], PQ)
        for wrong in (None, True, 0, "", "p", "pq", {}, {"p": 1}, {"p"}, range(1), object(), RIGHT):
            self.refused(InvalidNames, {"position": None}, piece.struck, wrong)
        for wrong in NO_NAMES + ["r", "t", "a", "pq"]:
            self.refused(InvalidNames, {"position": 0}, piece.struck, [wrong])
            self.refused(InvalidNames, {"position": 2}, piece.struck, ("z", "p", wrong, "z"))
        self.refused(InvalidNames, {"position": 1}, piece.struck, ["p", "p"])
        self.refused(InvalidNames, {"position": 2}, piece.struck, ["p", "q", "q", None])


class TurnedTest(Case):

    def test_mirrored_and_turned(self):
        piece = Piece(["p", "q", "z"], PQ)
        self.assertEqual(piece.mirrored(), Piece(["p", "q", "z"], {"r": Kind((1, 0, "p"), (0, 0, "q")), "t": TALL}))
        self.assertEqual(piece.turned(), Piece(["p", "q", "z"], {"r": Kind((0, 0, "p"), (0, 1, "q")), "t": row("p", "p")}))
        self.assertEqual(Piece(["p"]).mirrored(), Piece(["p"]))
        self.assertEqual(Piece(["p"]).turned(), Piece(["p"]))

    def test_twice(self):
        for piece in made_pieces(3, 30, names=3, kinds=5):
            self.assertEqual(piece.mirrored().mirrored(), piece)
            self.assertEqual(piece.turned().turned(), piece)
            self.assertEqual(piece.turned().reach, (piece.reach[1], piece.reach[0]))
            for kind in piece.kinds():
                self.assertEqual(piece.mirrored()[kind], piece[kind].mirrored())
                self.assertEqual(piece.turned()[kind], piece[kind].turned())


class RenamedTest(Case):

    def test_renamed(self):
        piece = Piece(["p", "q", "z"], PQ)
        self.assertEqual(piece.renamed({"z": "q", "q": "p", "p": "a"}),
                         Piece(["a", "p", "q"], {"r": row("a", "p"), "t": Kind((0, 0, "a"), (0, 1, "a"))}))
        self.assertEqual(piece.renamed(names={"p": "p", "q": "q", "z": "abcdefgh"}), Piece(["p", "q", "abcdefgh"], PQ))
        self.assertEqual(Piece(["p"]).renamed({"p": "x"}), Piece(["x"]))

    def test_wrong_renamings(self):
        piece = Piece(["p", "q"], PQ)
        for wrong in ODD + [{"p": "a"}, {"p": "a", "q": "b", "r": "c"}, {"p": "a", "r": "c"}, {"p": "a", "q": "a"},
                            {"p": "a", "q": 1}, {"p": "a", "q": None}, {"p": "a", "q": ["b"]}, {"p": "a", "q": ""},
                            {"p": "a", "q": "B"}, {"p": True, "q": "a"}, {"p": "a", "q": "abcdefghi"}, {"p": "a", 1: "b"},
                            [("p", "a"), ("q", "b")], {"p": "a", None: "b"}, {"p": [], "q": []}, {"p", "q"}, "pq"]:
            self.refused(InvalidRenaming, {"value": wrong}, piece.renamed, wrong)
        self.assertEqual(piece, Piece(["p", "q"], PQ))

    def test_the_order_of_the_keys_has_no_effect(self):
        piece = Piece(["p", "q"], PQ)
        self.same(piece.renamed({"p": "b", "q": "a"}), piece.renamed({"q": "a", "p": "b"}))


class RenamingTest(Case):

    def test_least(self):
        self.same(Piece(["b", "a"]).renaming(Piece(["y", "x"])), {"a": "x", "b": "y"})
        self.assertEqual(list(Piece(["b", "a"]).renaming(Piece(["y", "x"]))), ["a", "b"])
        one = Piece(["a", "b"], {"k": row("a", "b")})
        self.same(one.renaming(Piece(["p", "q"], {"x": row("q", "p")})), {"a": "q", "b": "p"})
        self.same(one.renaming(one), {"a": "a", "b": "b"})

    def test_none(self):
        one = Piece(["a", "b"], {"k": row("a", "b")})
        for other in (Piece(["a"]), Piece(["a", "b"]), Piece(["a", "b", "c"], {"k": row("a", "b")}),
                      Piece(["a", "b"], {"k": row("a", "a")}), Piece(["a", "b"], {"k": row("a", "b"), "l": row("b", "b")}),
                      Piece(["a", "b"], {"k": Kind((0, 0, "a"), (2, 0, "b"))}), Piece(["a", "b"], {"k": row("a", "b", "a")})):
            self.assertIsNone(one.renaming(other))
            self.assertIsNone(other.renaming(one))
            self.assertIs(one.is_alike(other), False)
            self.assertIs(other.is_alike(one), False)

    def test_equal_uses_are_not_enough(self):
        six = Piece(list("abcdef"), {name: Kind((0, 0, one), (0, 0, other)) for name, one, other in
                                     zip("uvwxyz", "abcdef", "bcdefa")})
        threes = Piece(list("abcdef"), {name: Kind((0, 0, one), (0, 0, other)) for name, one, other in
                                        zip("uvwxyz", "abcdef", "bcaefd")})
        self.assertIsNone(six.renaming(threes))
        self.assertIsNone(threes.renaming(six))
        turned = six.renamed(dict(zip("abcdef", "dbeafc")))
        self.same(six.renaming(turned), plain_renamings(six, turned)[0])
        self.same(threes.renaming(threes), {name: name for name in "abcdef"})

    def test_all_sequences_of_names(self):
        source = random.Random(4)
        for names, kinds, most in ((1, 2, 3), (2, 3, 3), (3, 3, 4), (4, 4, 3), (5, 4, 3)):
            for _ in range(14):
                one = made_piece(source, names, kinds, 1, most)
                new = source.sample(FIRST, names)
                led = one.renamed(dict(zip(one.names(), new)))
                led = Piece(led.names(), dict(zip(source.sample(FIRST, len(led)), [led[kind] for kind in led.kinds()])))
                for other in (one, led, made_piece(source, names, kinds, 1, most)):
                    found = plain_renamings(one, other)
                    self.same(one.renaming(other), found[0] if found else None)
                    self.assertIs(one.is_alike(other), found != [])

    def test_ten_names(self):
        one = Piece(list(FIRST[:10]))
        self.same(one.renaming(Piece(list(FIRST[3:13]))), dict(zip(FIRST[:10], FIRST[3:13])))
        star = one + ("k", Kind(*[(0, 0, name) for name in "efghij"]))
        other = one + ("k", Kind(*[(0, 0, name) for name in "acegij"]))
        self.same(star.renaming(other), dict(zip("abcdefghij", "bdfhacegij")))
        self.assertIsNone(star.renaming(one + ("k", Kind(*[(0, 0, name) for name in "acegi"]))))


class KeptTest(Case):

    def test_what_was_passed_may_be_changed(self):
        names, kinds = ["q", "p"], {"t": TALL, "r": RIGHT}
        piece = Piece(names, kinds)
        self.assertEqual((names, list(kinds)), (["q", "p"], ["t", "r"]))
        names.append("z")
        del kinds["t"]
        kinds["x"] = None
        self.assertEqual(piece, Piece(["p", "q"], PQ))
        self.same((piece.names(), piece.kinds(), len(piece)), (["p", "q"], ["r", "t"], 2))

    def test_what_was_returned_may_be_changed(self):
        piece = Piece(["p", "q"], {**PQ, "x": row("p", "q", "q")})
        for call in (piece.names, piece.kinds, piece.holds):
            before = call()
            changed = call()
            changed.append("x")
            changed[0] = None
            self.same(call(), before)
        renaming = piece.renaming(piece)
        renaming["p"] = "z"
        self.same(piece.renaming(piece), {"p": "p", "q": "q"})
        self.assertEqual(piece, Piece(["p", "q"], {**PQ, "x": row("p", "q", "q")}))

    def test_what_is_passed_is_not_changed(self):
        piece, other, names, struck = Piece(["p", "q"], PQ), Piece(["q"], {"a": row("q", "q")}), {"q": "b", "p": "a"}, ["q"]
        shown = repr(piece), repr(other)
        _ = piece | other, piece + ("a", row("q", "q")), piece - "t", piece == other, "t" in piece, piece["t"]
        _ = piece.holds(), piece.core(), piece.struck(struck), piece.mirrored(), piece.turned(), piece.renamed(names)
        _ = piece.renaming(other), piece.is_alike(other)
        self.assertEqual((repr(piece), repr(other)), shown)
        self.assertEqual((list(names.items()), struck), ([("q", "b"), ("p", "a")], ["q"]))

    def test_a_refused_call_changes_nothing(self):
        names, kinds = ["p"], {"t": TALL, "r": RIGHT}
        self.refused(UnknownName, {"value": "q"}, Piece, names, kinds)
        self.assertEqual((names, list(kinds)), (["p"], ["t", "r"]))
        piece = Piece(["p", "q"], PQ)
        struck, new = ["p", None], {"q": "x", "p": "x"}
        self.refused(InvalidNames, {"position": 1}, piece.struck, struck)
        self.refused(InvalidRenaming, {"value": new}, piece.renamed, new)
        self.refused(KindTaken, {"value": "t"}, lambda: piece + ("t", RIGHT))
        self.assertEqual((struck, new, piece), (["p", None], {"q": "x", "p": "x"}, Piece(["p", "q"], PQ)))

    def test_a_call_repeated(self):
        piece = Piece(["p", "q"], PQ)
        for call in (piece.names, piece.kinds, piece.holds, piece.core, piece.mirrored, piece.turned,
                     lambda: piece.renaming(piece), lambda: piece - "t", lambda: repr(piece)):
            self.assertEqual(call(), call())


class InterfaceTest(Case):

    def test_methods_stand_in_the_class(self):
        wanted = {"names": [], "kinds": [], "holds": [], "core": [], "struck": ["names"], "mirrored": [], "turned": [],
                  "renamed": ["names"], "renaming": ["other"], "is_alike": ["other"], "__init__": ["names", "kinds"]}
        for name, parameters in wanted.items():
            self.assertEqual(list(inspect.signature(vars(Piece)[name]).parameters), ["self"] + parameters)
        for name in ("__len__", "__contains__", "__getitem__", "__add__", "__radd__", "__sub__", "__or__", "__eq__",
                     "__repr__"):
            self.assertIn(name, vars(Piece))
        for name in ("reach", "is_flat"):
            self.assertIsInstance(vars(Piece)[name], property)
        self.assertEqual(Piece.__module__, "twoeach.pieces")


if __name__ == "__main__":
    unittest.main()
