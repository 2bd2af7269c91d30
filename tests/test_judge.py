import inspect
import itertools
import unittest

from helpers import FAR, ODD, Case, flat_piece, made_pieces, row, small_flat_pieces
from test_columns import MANY, TALL
from test_found import REFUSED, THREE
from twoeach import judge as module
from twoeach.boxes import Box
from twoeach.choices import is_choice, is_poor_set, least_choice
from twoeach.errors import InvalidClaim
from twoeach.found import is_ranks, longest_served, plan_for, ranks
from twoeach.judge import certificate_of, is_certificate, is_claim, verdict
from twoeach.kinds import Kind
from twoeach.owners import is_owners, is_paired, is_poor_lot, owners
from twoeach.pieces import Piece
from twoeach.plans import Plan
from twoeach.sizes import crowded_sets, is_crowded
from twoeach.small import is_line_strategy, is_spoil_strategy, spoiling
from twoeach.weights import is_halved, weight

NONE = Piece(["p"])
PQ = flat_piece("pq", r="0p 1q")
PAIR = flat_piece("a", k="0a 1a")
ROW = flat_piece("a", k="0a 1a 2a")
POOR = Piece(["p", "q"], {"r": row("p", "q"), "t": Kind((0, 0, "p"), (0, 1, "p"))})
CORE = PQ + ("s", Kind((0, 0, "p"), (1, 0, "q"), (0, 1, "p")))
ABOUT_PIECES, ABOUT_BOXES = ["paired", "poor"], ["owners", "unpaired", "crowded", "halved", "line", "spoilt"]
WORDS = ABOUT_PIECES + ABOUT_BOXES + ["served", "unserved"]


def pieces():
    return [NONE, PQ, PAIR, ROW, POOR, CORE, TALL, THREE, *MANY, *REFUSED.values(), *small_flat_pieces()[::4],
            *made_pieces(141, 15, names=2, kinds=3, reach=2, most=5), *made_pieces(142, 15, names=4, kinds=3, reach=1, most=4)]


def boxes():
    return [Box(piece, wide, tall) for piece in pieces() for wide, tall in ((1, 1), (2, 1), (2, 2), (4, 3))]


def is_window(piece):
    return piece.is_flat and len(piece.names()) * (piece.reach[0] + 1) <= 8


def claims():
    found = [(word, piece) for word in ABOUT_PIECES for piece in pieces()]
    found += [("served", piece) for piece in pieces() if is_window(piece)]
    found += [("unserved", piece, length) for piece in pieces() if is_window(piece) for length in (1, 3, 7, 14, FAR)]
    found += [(word, box) for word in ("crowded", "halved") for box in boxes()] + [("crowded", Box.square(POOR, FAR)), ("halved", Box.square(NONE, FAR))]
    found += [(word, box) for word in ("owners", "unpaired") for box in boxes() if box.lines <= 200]
    found += [(word, box) for word in ("line", "spoilt") for box in boxes() if box.cells <= 8]
    return found


def is_true(claim):
    word, about = claim[:2]
    return {"paired": lambda: least_choice(about) is not None, "poor": lambda: least_choice(about) is None,
            "owners": lambda: is_paired(about), "unpaired": lambda: not is_paired(about),
            "crowded": lambda: crowded_sets(about.piece, about.wide, about.tall) != [], "served": lambda: longest_served(about) is None,
            "unserved": lambda: longest_served(about) is not None and longest_served(about) < claim[2],
            "halved": lambda: is_halved(about), "line": lambda: spoiling(about) == "line", "spoilt": lambda: spoiling(about) == "spoilt"}[word]()


def is_paper(claim, value):
    """Whether a value is a paper, by the functions of the other files."""
    word, about = claim[:2]
    if word == "served":
        return isinstance(value, Plan) and value.is_right(about)
    if word == "unserved":
        return is_ranks(about, value) and value[()] < claim[2]
    if word == "halved":
        return is_halved(about) and isinstance(value, int) and not isinstance(value, bool) and value == weight(about)
    if word == "crowded":
        try:
            return is_crowded(about.piece, value, about.wide, about.tall)
        except Exception:
            return False
    return {"paired": is_choice, "poor": is_poor_set, "owners": is_owners, "unpaired": is_poor_lot, "line": is_line_strategy,
            "spoilt": is_spoil_strategy}[word](about, value)


class VerdictTest(Case):

    def test_some(self):
        self.same(verdict(Box(PQ, 4, 4)), "owned")
        self.same(verdict(box=Box(NONE, FAR, FAR)), "owned")
        self.same(verdict(Box(CORE, FAR, FAR)), "core")
        self.same(verdict(Box(ROW, FAR, FAR)), "served")
        self.same(verdict(Box(ROW, 1)), "served")
        self.same(verdict(Box(PAIR, 2)), "halved")
        self.same(verdict(Box(PAIR, 3)), "open")
        self.same(verdict(Box(POOR, 2, 1)), "halved")
        self.same(verdict(Box(POOR, FAR, FAR)), "open")

    def test_not_flat_or_beyond_the_limit(self):
        # The piece would be served if it were asked; of the same kinds with one name more it is not asked.
        self.same(verdict(Box(ROW.turned(), 9, 9)), "open")
        self.same(verdict(Box(ROW.turned(), 1, 5)), "halved")
        wide = flat_piece("abc", k="0a 1a 2a")
        self.same(verdict(Box(wide, 9, 9)), "open")
        self.same(verdict(Box(wide - "k", 9, 9)), "owned")

    def test_the_core_is_asked_only_whether_it_is_paired(self):
        # A core that is not paired but served does not help.
        piece = ROW + ("l", Kind((0, 0, "a"), (1, 0, "a"), (2, 0, "a"), (0, 1, "a")))
        self.same(verdict(Box(piece, 9, 9)), "open")

    def test_all_words(self):
        seen = {}
        for box in boxes() + [Box(piece, 9, 9) for piece in pieces()]:
            piece = box.piece
            words = [word for word, holds in (
                ("owned", least_choice(piece) is not None), ("core", least_choice(piece.core()) is not None),
                ("served", is_window(piece) and plan_for(piece) is not None), ("halved", weight(box) < 32), ("open", True)) if holds]
            self.same(verdict(box), words[0])
            seen[words[0]] = seen.get(words[0], 0) + 1
            if box.cells <= 8 and words[0] != "open":
                self.same(spoiling(box), "spoilt")
        self.assertEqual(sorted(seen), ["core", "halved", "open", "owned", "served"])
        self.assertGreater(min(seen.values()), 3, seen)


class ClaimsTest(Case):

    def test_right_ones(self):
        for claim in claims():
            self.assertIs(is_claim(claim), True, claim)
        self.assertIs(is_claim(value=("paired", NONE)), True)

    def test_wrong_ones(self):
        wrong = [(), ("paired",), ("paired", NONE, 1), ("paired", Box(NONE, 1)), ("halved", NONE), ("owners", NONE), ("unserved", ROW), ("served", ROW, 3),
                 ("served", Box(ROW, 1)), ("unserved", Box(ROW, 1), 3), ["paired", NONE], ("Paired", NONE), ("pair", NONE), (True, NONE), (None, NONE),
                 (["paired"], NONE), ({}, NONE), ("paired", None), ("paired", ["p"]), ("unserved", 3, ROW), ("halved", Box(NONE, 1), 0), "paired",
                 ("served", TALL), ("unserved", TALL, 1), ("owned", NONE), ("open", Box(NONE, 1)), ("line", PQ), ("spoilt", Box(PQ, 2), 2),
                 *[("served", piece) for piece in MANY], *[("unserved", piece, 9) for piece in MANY],
                 *[("unserved", PAIR, length) for length in (None, True, False, 0, -1, FAR + 1, "3", [3], (3,))]]
        for value in ODD + wrong + [(word, other) for word in WORDS for other in (None, 1, "p", Kind, Plan.none(), {})]:
            self.assertIs(is_claim(value), False, value)
            self.refused(InvalidClaim, {"value": value}, certificate_of, value)
            for paper in (None, {}, [], 1):
                self.refused(InvalidClaim, {"value": value}, is_certificate, value, paper)

    def test_limits_and_one_more(self):
        for word in ("owners", "unpaired"):
            self.assertIs(is_claim((word, Box(PAIR, 201))), True)
            self.assertIs(is_claim((word, Box(PAIR, 202))), False)
            self.assertIs(is_claim((word, Box(NONE, FAR, FAR))), True)
            self.assertIs(is_claim((word, Box(PAIR, FAR, FAR))), False)
        for word in ("line", "spoilt"):
            self.assertIs(is_claim((word, Box(NONE, 8))), True)
            self.assertIs(is_claim((word, Box(NONE, 9))), False)
            self.assertIs(is_claim((word, Box(PQ, 2, 2))), True)
            self.assertIs(is_claim((word, Box(PQ, 5))), False)
        for word in ("crowded", "halved"):
            self.assertIs(is_claim((word, Box(PAIR, FAR, FAR))), True)
        for length, wanted in ((1, True), (FAR, True), (FAR + 1, False), (0, False)):
            self.assertIs(is_claim(("unserved", PAIR, length)), wanted)
        self.assertIs(is_claim(("served", flat_piece("abcdefgh", k="0a 0b"))), True)
        self.assertIs(is_claim(("served", flat_piece("abcdefghi", k="0a 0b"))), False)


class PapersTest(Case):

    def test_some(self):
        self.same(certificate_of(("paired", PQ)), {"r": ((0, 0, "p"), (1, 0, "q"))})
        self.same(certificate_of(claim=("halved", Box(PAIR, 2))), 16)
        self.same(certificate_of(("halved", Box(NONE, 2))), 0)
        self.same(certificate_of(("poor", PAIR)), ["k"])
        self.same(certificate_of(("unpaired", Box(PAIR, 3))), [(0, 0, "k"), (1, 0, "k")])
        self.same(certificate_of(("crowded", Box(POOR, 1, 3))), ["t"])
        for claim in (("paired", POOR), ("poor", PQ), ("owners", Box(PAIR, 3)), ("unpaired", Box(PAIR, 2)), ("crowded", Box(PQ, FAR, FAR)), ("served", PAIR),
                      ("unserved", PAIR, 2), ("unserved", ROW, FAR), ("halved", Box(PAIR, 3)), ("line", Box(PQ, 2)), ("spoilt", Box(PAIR, 3))):
            self.assertIsNone(certificate_of(claim))

    def test_all_claims(self):
        seen = {}
        for claim in claims():
            paper = certificate_of(claim)
            self.assertEqual(paper is not None, is_true(claim), claim)
            self.assertIs(is_certificate(claim, None), False)
            if paper is not None:
                self.assertIs(is_paper(claim, paper), True)
                self.assertIs(is_certificate(claim=claim, value=paper), True)
            seen[claim[0], paper is not None] = seen.get((claim[0], paper is not None), 0) + 1
        self.assertEqual(len(seen), 20)
        self.assertGreater(min(seen.values()), 5, seen)

    def test_one_of_two_is_true(self):
        for one, other in (("paired", "poor"), ("owners", "unpaired"), ("line", "spoilt")):
            for claim in claims():
                if claim[0] == one:
                    self.assertNotEqual(certificate_of(claim) is None, certificate_of((other, claim[1])) is None)

    def test_papers_of_other_claims(self):
        tried = claims()[::9]
        papers = [paper for paper in map(certificate_of, tried) if paper is not None] + ODD + [0, 1, 16, 31]
        seen = 0
        for claim in tried:
            for paper in papers[::3]:
                wanted = is_paper(claim, paper)
                self.assertIs(is_certificate(claim, paper), wanted)
                seen += wanted
        self.assertGreater(seen, 50)

    def test_other_papers(self):
        two = Piece(["p", "q"], {"k": row("p", "p"), "l": row("q", "q"), "m": row("p", "q")})
        self.assertIs(is_certificate(("poor", two), ["k"]), True)
        self.assertIs(is_certificate(("poor", two), ("l", "m", "k")), True)
        self.assertIs(is_certificate(("poor", two), ["k", "k"]), False)
        self.assertIs(is_certificate(("poor", two), ["m"]), False)
        box = Box(two, 9, 1)
        self.assertIs(is_certificate(("crowded", box), ["m", "k"]), True)
        self.assertIs(is_certificate(("crowded", box), ("k",)), True)
        for wrong in (["m"], [], ["k", "k"], ["k", "x"], ["k", None], "k", {"k": 1}, {"k"}, None, [["k"]]):
            self.assertIs(is_certificate(("crowded", box), wrong), False, wrong)
        self.assertIs(is_certificate(("paired", PQ), {"r": ((1, 0, "q"), (0, 0, "p"))}), True)
        self.assertIs(is_certificate(("served", ROW), plan_for(ROW).times(7) >> 1), True)
        self.assertIs(is_certificate(("served", ROW), Plan.none()), False)
        self.assertIs(is_certificate(("served", ROW), plan_for(ROW).partners()), False)
        self.assertIs(is_certificate(("unserved", PAIR, 3), ranks(PAIR)), True)
        self.assertIs(is_certificate(("unserved", PAIR, 2), ranks(PAIR)), False)

    def test_true_and_false_are_no_weights(self):
        one = flat_piece("abcdef", k="0a 0b 0c 0d 0e 0f")
        self.same(weight(Box(one, 1)), 1)
        self.assertIs(is_certificate(("halved", Box(one, 1)), 1), True)
        self.assertIs(is_certificate(("halved", Box(NONE, 1)), 0), True)
        for claim, wrong in ((("halved", Box(one, 1)), True), (("halved", Box(NONE, 1)), False), (("halved", Box(one, 1)), "1"), (("halved", Box(one, 2)), 1),
                             (("halved", Box(PAIR, 3)), 32), (("halved", Box(NONE, 1)), None)):
            self.assertIs(is_certificate(claim, wrong), False)


class KeptTest(Case):

    def test_what_was_returned_may_be_changed(self):
        for claim in (("poor", PAIR), ("unpaired", Box(PAIR, 3)), ("crowded", Box(POOR, 1, 3)), ("paired", PQ), ("unserved", PAIR, 3), ("line", Box(PAIR, 3))):
            before, changed = certificate_of(claim), certificate_of(claim)
            changed.clear()
            self.same(certificate_of(claim), before)

    def test_what_is_passed_is_not_changed(self):
        paper = owners(Box(PQ, 3))
        before, claim = dict(paper), ("owners", Box(PQ, 3))
        is_certificate(claim, paper), certificate_of(claim), verdict(Box(PQ, 3)), is_claim(claim)
        self.same((paper, claim), (before, ("owners", Box(PQ, 3))))

    def test_parameters(self):
        wanted = {"verdict": ["box"], "is_claim": ["value"], "certificate_of": ["claim"], "is_certificate": ["claim", "value"]}
        for name, parameters in wanted.items():
            self.assertEqual(list(inspect.signature(getattr(module, name)).parameters), parameters)
            self.assertEqual(getattr(module, name).__module__, "twoeach.judge")


if __name__ == "__main__":
    unittest.main()
