import inspect
import unittest

from helpers import Case, made_pieces, row
from twoeach import settled as module
from twoeach.choices import greatest_lack, is_choice, is_poor_set, least_choice, least_set, set_lack
from twoeach.kinds import Kind
from twoeach.pieces import Piece
from twoeach.settled import CoreOwned, Crowded, Owned, Settled, settled
from twoeach.sizes import is_crowded, square

PAIRED = Piece(["p", "q"], {"r": row("p", "q")})
POOR = Piece(["p", "q"], {"r": row("p", "q"), "t": Kind((0, 0, "p"), (0, 1, "p"))})
CORE = Piece(["p", "q"], {"r": row("p", "q"), "s": Kind((0, 0, "p"), (1, 0, "q"), (0, 1, "q"))})


class ClassesTest(Case):

    def test_bases(self):
        self.assertEqual(Owned.__bases__, (Settled,))
        self.assertEqual(Crowded.__bases__, (Settled,))
        self.assertEqual(CoreOwned.__bases__, (Owned, Crowded))

    def test_told(self):
        self.assertEqual(Settled(PAIRED).told(), "2 names, 1 kinds")
        self.assertEqual(Settled(Piece(["p"])).told(), "1 names, 0 kinds")
        self.assertEqual(Owned(PAIRED, {}).told(), "owned: 2 names, 1 kinds")
        self.assertEqual(Crowded(POOR, ["t"], 3).told(), "crowded at 3: 2 names, 2 kinds")
        self.assertEqual(Crowded(POOR, ["t"], 10 ** 30).told(), f"crowded at {10 ** 30}: 2 names, 2 kinds")
        self.assertEqual(CoreOwned(POOR, {}, ["t"], 3).told(), "core: owned: crowded at 3: 2 names, 2 kinds")

    def test_the_same_objects_are_kept(self):
        chosen, crowd, size = {"r": None}, ["r", "x"], 10 ** 29
        owned, crowded, core = Owned(PAIRED, chosen), Crowded(POOR, crowd, size), CoreOwned(CORE, chosen, crowd, size)
        self.assertIs(Settled(PAIRED).about, PAIRED)
        self.assertIs(owned.about, PAIRED)
        self.assertIs(owned.chosen, chosen)
        self.assertIs(crowded.about, POOR)
        self.assertIs(crowded.crowd, crowd)
        self.assertIs(crowded.size, size)
        self.assertIs(core.about, CORE)
        self.assertIs(core.chosen, chosen)
        self.assertIs(core.crowd, crowd)
        self.assertIs(core.size, size)
        chosen["z"] = 1
        crowd.append("y")
        self.assertEqual((owned.chosen, core.crowd), ({"r": None, "z": 1}, ["r", "x", "y"]))

    def test_nothing_is_checked(self):
        core = CoreOwned(about=None, chosen=True, crowd=0, size="big")
        self.same((core.about, core.chosen, core.crowd, core.size), (None, True, 0, "big"))
        self.assertIsNone(Settled(about=None).about)
        self.assertIsNone(Owned(about=1, chosen=None).chosen)
        self.assertEqual(Crowded(about=1, crowd=None, size=PAIRED).size, PAIRED)

    def test_only_the_attributes_that_are_listed(self):
        self.assertEqual(sorted(vars(Settled(1))), ["about"])
        self.assertEqual(sorted(vars(Owned(1, 2))), ["about", "chosen"])
        self.assertEqual(sorted(vars(Crowded(1, 2, 3))), ["about", "crowd", "size"])
        self.assertEqual(sorted(vars(CoreOwned(1, 2, 3, 4))), ["about", "chosen", "crowd", "size"])

    def test_methods_stand_in_the_classes(self):
        wanted = {Settled: ["about"], Owned: ["about", "chosen"], Crowded: ["about", "crowd", "size"],
                  CoreOwned: ["about", "chosen", "crowd", "size"]}
        for own, parameters in wanted.items():
            self.assertIn("told", vars(own))
            self.assertEqual(list(inspect.signature(own).parameters), parameters)
            self.assertEqual(own.__module__, "twoeach.settled")
        self.assertEqual(list(inspect.signature(module.settled).parameters), ["piece"])


class SettledTest(Case):

    def test_owned(self):
        found = settled(PAIRED)
        self.assertIs(found.__class__, Owned)
        self.assertEqual(found.about, PAIRED)
        self.same(found.chosen, {"r": ((0, 0, "p"), (1, 0, "q"))})
        self.assertEqual(settled(piece=Piece(["p"])).told(), "owned: 1 names, 0 kinds")

    def test_crowded(self):
        found = settled(POOR)
        self.assertIs(found.__class__, Crowded)
        self.same((found.crowd, found.size), (["r", "t"], 3))
        self.assertEqual(found.told(), "crowded at 3: 2 names, 2 kinds")

    def test_core(self):
        found = settled(CORE)
        self.assertIs(found.__class__, CoreOwned)
        self.assertEqual(found.about, CORE)
        self.same((found.chosen, found.crowd, found.size), ({"r": ((0, 0, "p"), (1, 0, "q"))}, ["r", "s"], 3))
        self.assertEqual(found.told(), "core: owned: crowded at 3: 2 names, 2 kinds")

    def test_many(self):
        seen = {Owned: 0, Crowded: 0, CoreOwned: 0}
        cores = [Piece(["p", "q"], {"a": row("p", "q"), "b": Kind((0, 0, "p"), (1, 0, "q"), entry)})
                 for entry in ((2, 0, "p"), (0, 2, "q"), (3, 3, "p"), (1, 0, "p"))]
        for piece in cores + made_pieces(51, 60, names=4, kinds=3, reach=1, most=4) + made_pieces(52, 60, names=6, kinds=2):
            found = settled(piece)
            seen[found.__class__] += 1
            self.assertIs(found.about, piece)
            choice = least_choice(piece)
            if choice is not None:
                self.assertIs(found.__class__, Owned)
                self.same(found.chosen, choice)
                continue
            self.same((found.crowd, found.size), (least_set(piece), square(piece, least_set(piece))))
            self.assertIs(is_poor_set(piece, found.crowd), True)
            self.assertEqual(set_lack(piece, found.crowd), greatest_lack(piece))
            self.assertIs(is_crowded(piece, found.crowd, found.size, found.size), True)
            choice = least_choice(piece.core())
            self.assertIs(found.__class__, Crowded if choice is None else CoreOwned)
            if choice is not None:
                self.same(found.chosen, choice)
                self.assertIs(is_choice(piece.core(), found.chosen), True)
        self.assertGreater(min(seen.values()), 3, seen)

    def test_what_was_returned_may_be_changed(self):
        found = settled(CORE)
        found.crowd.append("x")
        found.chosen.clear()
        found.size = None
        again = settled(CORE)
        self.same((again.chosen, again.crowd, again.size), ({"r": ((0, 0, "p"), (1, 0, "q"))}, ["r", "s"], 3))
        self.assertEqual(CORE, Piece(["p", "q"], {"r": row("p", "q"), "s": Kind((0, 0, "p"), (1, 0, "q"), (0, 1, "q"))}))


if __name__ == "__main__":
    unittest.main()
