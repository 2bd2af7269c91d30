import inspect
import math
import random
import time
import unittest

from helpers import ODD, Case, made_pieces, row
from twoeach.boxes import Box
from twoeach.choices import least_choice
from twoeach.errors import InvalidColumn, InvalidPartners, InvalidPeriod, NotFlat, UnknownKind, UnknownName
from twoeach.kinds import Kind
from twoeach.pieces import Piece
from twoeach.plans import Plan

FAR = 10 ** 30
ROW = Piece(["a"], {"k": row("a", "a", "a")})
PQ = Piece(["p", "q"], {"r": row("p", "q")})
TALL = Piece(["p", "q"], {"r": row("p", "q"), "t": Kind((0, 0, "p"), (0, 1, "p"))})
NONE = Piece(["p"])
PAIRS = {(0, "a"): (1, "a"), (1, "a"): (-1, "a")}
PLAN = Plan(2, PAIRS)
ONE = Plan(1, {(0, "p"): (1, "q"), (0, "q"): (-1, "p")})
NO_PERIODS = [None, True, False, 0, -1, 501, FAR, "", "1", [1], (1,), {}, object(), PLAN]
NO_COLUMNS = [None, True, False, "", "0", "a", [0], (0,), {}, object(), PLAN, (0, "a")]


def made_plan(source, period, names="ab", farthest=9):
    """A plan whose partners are found by trying pairs of places."""
    partners = {}
    for _ in range(period * len(names) * 2):
        x, name = source.randrange(period), source.choice(names)
        difference, other = source.randint(-farthest, farthest), source.choice(names)
        back = ((x + difference) % period, other)
        if (x, name) != back and (x, name) not in partners and back not in partners:
            partners[x, name] = (difference, other)
            partners[back] = (-difference, name)
    return Plan(period, partners)


def made_plans(seed, many, most=8):
    source = random.Random(seed)
    return [made_plan(source, source.randint(1, most), source.choice(["a", "ab", "abc"])) for _ in range(many)]


def partner_of(plan, x, name):
    """The partner of a place, by the entry at the remainder."""
    entry = plan.partners().get((x - x // plan.period * plan.period, name))
    return entry and (x + entry[0], entry[1])


def is_right_dict(period, partners):
    """Whether partners are as they must be, place by place over several periods."""
    for x in range(-2 * period, 2 * period):
        for at, name in partners:
            if (x - at) % period == 0:
                difference, other = partners[at, name]
                back = partners.get(((x + difference) % period, other))
                if back is None or (x + difference + back[0], back[1]) != (x, name):
                    return False
                if (x + difference, other) == (x, name):
                    return False
    return True


def flat_pieces():
    return [ROW, PQ, NONE, Piece(["a", "b"], {"k": Kind((0, 0, "a"), (0, 0, "b")), "l": row("b", "a", "b")}),
            *made_pieces(61, 20, names=2, kinds=3, reach=3, most=6, flat=True),
            *made_pieces(62, 10, names=3, kinds=2, reach=2, most=6, flat=True)]


def served_lines(plan, box):
    """The lines of a box, and whether two cells of each are partners."""
    out = {}
    for line in box.all_lines():
        cells = box.cells_of(line)
        out[line] = any(partner_of(plan, x, name) == (z, other) for x, _, name in cells for z, _, other in cells)
    return out


class ConstructorTest(Case):

    def test_parts(self):
        self.same(PLAN.period, 2)
        self.same(PLAN.partners(), PAIRS)
        self.assertEqual(Plan(period=2, partners=PAIRS), PLAN)
        self.assertEqual(list(Plan(2, {(1, "b"): (0, "a"), (1, "a"): (0, "b"), (0, "a"): (2, "c"), (0, "c"): (-2, "a")}).partners()),
                         [(0, "a"), (0, "c"), (1, "a"), (1, "b")])

    def test_periods(self):
        self.assertEqual(Plan.MOST_PERIOD, 500)
        self.assertEqual(PLAN.MOST_PERIOD, 500)
        for period in (1, 2, 499, 500):
            self.same(Plan(period, {}).period, period)
            self.same(Plan.none(period).period, period)
            self.same(Plan.none(period).partners(), {})
        for wrong in NO_PERIODS:
            self.refused(InvalidPeriod, {"value": wrong}, Plan, wrong, {})
            self.refused(InvalidPeriod, {"value": wrong}, Plan, wrong, None)
            self.refused(InvalidPeriod, {"value": wrong}, Plan.none, wrong)
        self.assertEqual(Plan.none(), Plan(1, {}))
        self.assertEqual(Plan.none(period=7), Plan(7, {}))
        self.assertIsInstance(vars(Plan)["none"], staticmethod)

    def wrong(self, period, partners):
        self.refused(InvalidPartners, {"value": partners}, Plan, period, partners)

    def test_no_partners(self):
        for value in ODD + [[], [((0, "a"), (1, "a"))], "a", PLAN, 1]:
            if value != {} or not isinstance(value, dict):
                self.wrong(2, value)

    def test_wrong_remainders(self):
        for at in (None, True, 0, "a", "ab", (0,), (0, "a", 0), (2, "a"), (-1, "a"), (-2, "a"), (FAR, "a"), (0, ""), (0, "A"), (0, 0),
                   (0, None), (0, "abcdefghi"), ("a", 0), (None, "a"), ("0", "a"), ((0,), "a"), (0, ("a",)), (True, "a")):
            self.wrong(2, {at: (1, "a"), (1, "a"): (-1, "a")})
            self.wrong(2, {**PAIRS, at: (1, "b")})
        self.wrong(2, {(False, "a"): (1, "a"), (1, "a"): (-1, "a")})
        self.wrong(2, {(0, "a"): (1, "a"), (True, "a"): (-1, "a")})

    def test_wrong_partners(self):
        for partner in (None, True, 1, "a", (), (1,), (1, "a", 0), [1, "a"], ("a", 1), (None, "a"), ("1", "a"), (1, None), (1, ""), (1, "A"),
                        (1, "abcdefghi"), (1, ["a"]), ([1], "a"), (True, "a"), {1: "a"}):
            self.wrong(2, {(0, "a"): partner, (1, "a"): (-1, "a")})
        self.wrong(1, {(0, "a"): (False, "b"), (0, "b"): (0, "a")})

    def test_partners_that_do_not_lead_back(self):
        self.wrong(2, {(0, "a"): (1, "a")})
        self.wrong(2, {(0, "a"): (1, "a"), (1, "a"): (1, "a")})
        self.wrong(2, {(0, "a"): (1, "a"), (1, "a"): (-3, "a")})
        self.wrong(2, {(0, "a"): (1, "b"), (1, "b"): (-1, "b")})
        self.wrong(2, {(0, "a"): (1, "b"), (1, "a"): (-1, "a")})
        self.wrong(1, {(0, "a"): (1, "a")})
        self.wrong(1, {(0, "a"): (0, "b"), (0, "b"): (0, "c"), (0, "c"): (0, "a")})
        self.wrong(3, {(0, "a"): (1, "a"), (1, "a"): (1, "a"), (2, "a"): (1, "a")})

    def test_a_partner_of_itself(self):
        self.wrong(1, {(0, "a"): (0, "a")})
        self.wrong(2, {**PAIRS, (0, "b"): (0, "b")})

    def test_differences(self):
        for far in (60, -60, 59, 1, 0):
            plan = Plan(1, {(0, "a"): (far, "b"), (0, "b"): (-far, "a")})
            self.same(plan(5, "a"), (5 + far, "b"))
        for far in (61, -61, FAR):
            self.wrong(1, {(0, "a"): (far, "b"), (0, "b"): (-far, "a")})
        self.wrong(3, {(0, "a"): (61, "a"), (1, "a"): (-61, "a")})
        self.same(Plan(3, {(0, "a"): (58, "a"), (1, "a"): (-58, "a")})(-3, "a"), (55, "a"))

    def test_all_small_dicts(self):
        source = random.Random(63)
        seen = {True: 0, False: 0}
        for _ in range(3000):
            period = source.randint(1, 3)
            partners = {}
            for _ in range(source.randint(0, 3)):
                at = (source.randrange(period), source.choice("ab"))
                partners[at] = (source.randint(-2, 2), source.choice("ab"))
                if source.random() < 0.7:
                    back = ((at[0] + partners[at][0]) % period, partners[at][1])
                    partners[back] = (-partners[at][0], at[1])
            right = is_right_dict(period, partners)
            seen[right] += 1
            if right:
                self.same(Plan(period, partners).partners(), {at: partners[at] for at in sorted(partners)})
            else:
                self.wrong(period, partners)
        self.assertGreater(min(seen.values()), 300)


class PartsTest(Case):

    def test_the_example_of_the_document(self):
        self.same([PLAN.is_right(ROW), PLAN(FAR, "a") == (FAR + 1, "a"), Plan.none().served_below(ROW), (PLAN >> 1)[0, "a"]],
                  [True, True, 3, (-1, "a")])

    def test_get(self):
        self.same(PLAN[0, "a"], (1, "a"))
        self.same(PLAN[1, "a"], (-1, "a"))
        self.assertIsNone(PLAN[0, "b"])
        self.assertIsNone(Plan.none(3)[2, "abcdefgh"])
        for wrong in ODD + [0, "a", "ab", (2, "a"), (-1, "a"), (True, "a"), (False, "a"), (0, "A"), (0, ""), (0, None), (0, "a", 0), [0, "a"],
                            (0,), ((0, "a"),), (FAR, "a"), (0, True), (0, ["a"]), (0, "abcdefghi"), slice(0, 1), PLAN]:
            self.refused(UnknownName, {"value": wrong}, lambda: PLAN[wrong])

    def test_call(self):
        for plan in made_plans(64, 40):
            for x in list(range(-20, 20)) + [FAR, -FAR, FAR - 7, 123456789012345678901234567890]:
                for name in ("a", "b", "c", "abcdefgh"):
                    self.same(plan(x, name), partner_of(plan, x, name))
                    if plan(x, name) is not None:
                        self.same(plan(*plan(x, name)), (x, name))
                        self.assertNotEqual(plan(x, name), (x, name))
        self.same(PLAN(x=-1, name="a"), (-2, "a"))
        self.assertIsNone(Plan.none()(0, "a"))

    def test_call_refused(self):
        for wrong in NO_COLUMNS:
            self.refused(InvalidColumn, {"value": wrong}, PLAN, wrong, "a")
            self.refused(InvalidColumn, {"value": wrong}, PLAN, wrong, None)
        for wrong in (None, True, 0, "", "A", "a b", "abcdefghi", b"a", ["a"], ("a",), {}, object(), PLAN):
            self.refused(UnknownName, {"value": wrong}, PLAN, 0, wrong)

    def test_not_iterated_over(self):
        with self.assertRaises(TypeError):
            iter(PLAN)

    def test_equal(self):
        self.assertTrue(PLAN == Plan(2, dict(reversed(list(PAIRS.items())))))
        self.assertFalse(PLAN != Plan(2, dict(PAIRS)))
        four = {(0, "a"): (1, "a"), (1, "a"): (-1, "a"), (2, "a"): (1, "a"), (3, "a"): (-1, "a")}
        for other in (Plan(4, four), Plan.none(2), Plan(2, {(0, "a"): (-1, "a"), (1, "a"): (1, "a")}), None, 2, PAIRS, repr(PLAN), ROW):
            self.assertFalse(PLAN == other)
            self.assertTrue(PLAN != other)
        self.assertFalse(Plan.none(1) == Plan.none(2))

    def test_repr(self):
        self.assertEqual(repr(ONE), "Plan(1, {(0, 'p'): (1, 'q'), (0, 'q'): (-1, 'p')})")
        self.assertEqual(repr(Plan(1, {(0, "q"): (-1, "p"), (0, "p"): (1, "q")})), repr(ONE))
        self.assertEqual(repr(Plan.none(20)), "Plan(20, {})")
        for plan in made_plans(65, 20):
            self.assertEqual(eval(repr(plan), {"Plan": Plan}), plan)


class NewPlansTest(Case):

    def places(self, one, other):
        span = math.lcm(one.period, other.period)
        return [(x, name) for x in range(-span, span) for name in "abc"]

    def test_same(self):
        plans = made_plans(66, 14, 4)
        plans += [plan.times(2) for plan in plans] + [plan.times(3) for plan in plans] + [plan >> plan.period for plan in plans]
        seen = {True: 0, False: 0}
        for one in plans:
            for other in plans:
                same = all(partner_of(one, x, name) == partner_of(other, x, name) for x, name in self.places(one, other))
                self.assertIs(one.is_same(other), same)
                seen[same] += 1
        self.assertGreater(min(seen.values()), 100)
        self.assertIs(Plan.none(499).is_same(other=Plan.none(500)), True)
        self.assertIs(PLAN.is_same(Plan.none(2)), False)

    def test_reduced(self):
        for plan in made_plans(67, 40, 6):
            for many in (1, 2, 3):
                longer = plan.times(many)
                least = [period for period in range(1, longer.period + 1) if all(
                    (longer(x, name) or (0,))[0] + period == (longer(x + period, name) or (period,))[0]
                    and (longer(x, name) is None) == (longer(x + period, name) is None)
                    and (longer(x, name) or "..")[1] == (longer(x + period, name) or "..")[1]
                    for x in range(longer.period) for name in "abc")][0]
                self.same(longer.reduced().period, least)
                self.assertIs(longer.reduced().is_same(plan), True)
                for x in range(-9, 9):
                    for name in "abc":
                        self.same(longer.reduced()(x, name), partner_of(plan, x, name))
        self.assertEqual(PLAN.reduced(), PLAN)
        self.assertEqual(PLAN.times(250).reduced(), PLAN)
        self.assertEqual(Plan.none(500).reduced(), Plan.none())
        # A period of half as many columns would be one of the columns that have partners only.
        self.same(Plan(4, {(0, "a"): (0, "b"), (0, "b"): (0, "a"), (2, "a"): (0, "c"), (2, "c"): (0, "a")}).reduced().period, 4)

    def test_shifted(self):
        for plan in made_plans(68, 25):
            for by in (0, 1, -1, 2, 7, -30, FAR, -FAR, plan.period):
                right, left = plan >> by, plan << by
                self.same((right.period, left.period), (plan.period, plan.period))
                self.assertEqual(left, plan >> -by)
                self.assertEqual(right << by, plan)
                for x in range(-9, 9):
                    for name in "abc":
                        partner = partner_of(plan, x, name)
                        self.same(right(x + by, name), partner and (partner[0] + by, partner[1]))
                        self.same(left(x - by, name), partner and (partner[0] - by, partner[1]))
            self.assertEqual(plan >> plan.period, plan)
        for wrong in NO_COLUMNS:
            self.refused(InvalidColumn, {"value": wrong}, lambda: PLAN >> wrong)
            self.refused(InvalidColumn, {"value": wrong}, lambda: PLAN << wrong)

    def test_mirrored(self):
        for plan in made_plans(69, 30):
            mirrored = plan.mirrored()
            self.same(mirrored.period, plan.period)
            self.assertEqual(mirrored.mirrored(), plan)
            for x in range(-12, 12):
                for name in "abc":
                    partner = partner_of(plan, -x, name)
                    self.same(mirrored(x, name), partner and (-partner[0], partner[1]))
        self.assertEqual(ONE.mirrored(), Plan(1, {(0, "p"): (-1, "q"), (0, "q"): (1, "p")}))
        self.assertEqual(PLAN.mirrored(), PLAN >> 1)

    def test_times(self):
        for plan in made_plans(70, 20):
            for many in (1, 2, 5):
                longer = plan.times(many)
                self.same(longer.period, plan.period * many)
                self.assertIs(longer.is_same(plan), True)
                self.assertEqual(len(longer.partners()), many * len(plan.partners()))
        self.assertEqual(PLAN.times(many=2), Plan(4, {(0, "a"): (1, "a"), (1, "a"): (-1, "a"), (2, "a"): (1, "a"), (3, "a"): (-1, "a")}))
        self.same(PLAN.times(250).period, 500)
        self.same(Plan.none().times(500).period, 500)
        for wrong in (None, True, False, 0, -1, 251, FAR, "", "1", [1], (1,), {}, object()):
            self.refused(InvalidPeriod, {"value": wrong}, PLAN.times, wrong)
        self.refused(InvalidPeriod, {"value": 501}, Plan.none().times, 501)
        self.refused(InvalidPeriod, {"value": 2}, Plan.none(251).times, 2)


def shifted_dict(plan, by):
    """The partners of a plan shifted to the right, sorted."""
    return {at: partner for at, partner in sorted((((x + by) % plan.period, name), partner) for (x, name), partner in plan.partners().items())}


def mirrored_dict(plan):
    return {at: partner for at, partner in sorted(((-x % plan.period, name), (-gap, other)) for (x, name), (gap, other) in plan.partners().items())}


def times_dict(plan, many):
    return {at: partner for at, partner in sorted(((x + turn * plan.period, name), partner) for (x, name), partner in plan.partners().items()
                                                  for turn in range(many))}


def great_plans():
    """Plans of long periods and of many partners."""
    source = random.Random(191)
    pairs = {(x, name): (1 if x % 2 == 0 else -1, name) for x in range(6) for name in "abcd"}
    names = ["a", "b", "aa", "ab", "b" * 8, "z"]
    return [Plan(7, pairs).times(71), Plan(7, pairs).times(2), made_plan(source, 500, names, 60), made_plan(source, 499, "ab", 60),
            made_plan(source, 250, names, 9).times(2), made_plan(source, 100, names, 60), made_plan(source, 10, names, 60), Plan.none(500),
            Plan(500, {(499, "b"): (1, "a"), (0, "a"): (-1, "b"), (9, "a"): (1, "ab"), (10, "ab"): (-1, "a")})]


class GreatPlansTest(Case):

    def told(self, plan, period, partners):
        """Just these partners, sorted, and equal to the plan that is made of them."""
        self.same((plan.period, plan.partners()), (period, partners))
        self.assertEqual(list(plan.partners()), list(partners))
        self.assertEqual(plan, Plan(period, partners))
        self.assertEqual(repr(plan), f"Plan({period}, {partners})")

    def test_the_plan_of_many_partners(self):
        pairs = {(x, name): (1 if x % 2 == 0 else -1, name) for x in range(6) for name in "abcd"}
        plan = Plan(7, pairs)
        long = plan.times(71)
        self.same((long.period, len(long.partners())), (497, 1704))
        self.told(long, 497, times_dict(plan, 71))
        self.told(long >> 1, 497, shifted_dict(long, 1))
        self.told(long.reduced(), 7, dict(sorted(pairs.items())))
        self.assertIs(long.is_same(plan), True)
        self.assertIs((long >> 7).is_same(plan), True)
        self.assertIs((long >> 1).is_same(plan), False)

    def test_shifted_and_mirrored(self):
        source = random.Random(192)
        for plan in great_plans():
            for by in (0, 1, plan.period - 1, plan.period, FAR, -1, -FAR, *[source.randint(-999, 999) for _ in range(6)]):
                self.told(plan >> by, plan.period, shifted_dict(plan, by))
                self.told(plan << by, plan.period, shifted_dict(plan, -by))
            self.told(plan.mirrored(), plan.period, mirrored_dict(plan))
            self.told((plan >> 3).mirrored() << 5, plan.period, shifted_dict(Plan(plan.period, mirrored_dict(plan)), -8))
            self.assertEqual(((plan >> 3) >> 4) << 7, plan)

    def test_longer_and_shorter(self):
        for plan in great_plans():
            for many in range(1, 500 // plan.period + 1):
                self.told(plan.times(many), plan.period * many, times_dict(plan, many))
                self.assertEqual(plan.times(many).reduced(), plan.reduced())
            self.refused(InvalidPeriod, {"value": 500 // plan.period + 1}, plan.times, 500 // plan.period + 1)
            least = [step for step in range(1, plan.period + 1) if plan.period % step == 0 and shifted_dict(plan, step) == plan.partners()][0]
            self.told(plan.reduced(), least, {at: partner for at, partner in plan.partners().items() if at[0] < least})

    def test_wrong_values_are_refused_as_before(self):
        for plan in great_plans():
            for by in NO_COLUMNS:
                self.refused(InvalidColumn, {"value": by}, lambda: plan >> by)
                self.refused(InvalidColumn, {"value": by}, lambda: plan << by)
            for many in (None, True, 0, -1, 501, "1", [1]):
                self.refused(InvalidPeriod, {"value": many}, plan.times, many)
        right = great_plans()[0].partners()
        for at, partner in (((496, "z"), (0, "z")), ((0, "a"), (2, "a")), ((0, "a"), (1, "A")), ((0, "a"), None), ((497, "a"), (1, "a")),
                            ((0, "a"), (61, "a")), ((0, "A"), (1, "a")), ((True, "z"), (1, "z")), ((3, "c"), (True, "c"))):
            wrong = {**right, at: partner}
            self.refused(InvalidPartners, {"value": wrong}, Plan, 497, wrong)
        for at in list(right)[::200]:
            wrong = {other: right[other] for other in right if other != at}
            self.refused(InvalidPartners, {"value": wrong}, Plan, 497, wrong)

    def test_what_follows_is_independent(self):
        plan = great_plans()[1]
        for make in (lambda: plan >> 0, lambda: plan << 0, plan.reduced, lambda: plan.times(1), lambda: plan.mirrored().mirrored()):
            before, changed = make().partners(), make().partners()
            changed.clear()
            self.same(make().partners(), before)
            self.same(plan, great_plans()[1])

    def test_unserved(self):
        for plan in great_plans():
            for piece in flat_pieces()[::4]:
                wanted = [(x, kind) for x in range(plan.period) for kind in piece.kinds() if not plan.serves(piece, kind, x)]
                self.same(plan.unserved(piece), wanted)

    def test_many_calls(self):
        # These calls take a second at most; when each plan was checked and sorted anew, they took more than ten.
        plan, begin = great_plans()[1].reduced(), time.perf_counter()
        for by in range(200):
            plan.times(71).mirrored(), plan.times(71) >> by, plan.times(71).reduced(), plan.times(71) << by
            if time.perf_counter() - begin > 8:
                break
        self.assertLess(time.perf_counter() - begin, 8)


class ServesTest(Case):

    def test_some(self):
        self.assertIs(PLAN.serves(ROW, "k", 0), True)
        self.assertIs(ONE.serves(PQ, "r", -FAR), True)
        self.assertIs(ONE.serves(piece=PQ, kind="r", x=3), True)
        two = Piece(["a"], {"k": row("a", "a")})
        self.same([PLAN.serves(two, "k", x) for x in (-2, -1, 0, 1, FAR, FAR + 1)], [True, False, True, False, True, False])
        self.same(PLAN.unserved(two), [(1, "k")])
        self.same(PLAN.served_below(two), 3)
        self.assertIs(PLAN.is_right(two), False)
        self.same(Plan.none(3).unserved(piece=two), [(0, "k"), (1, "k"), (2, "k")])
        self.same(Plan.none(3).served_below(piece=two), 2)
        self.assertIs(Plan.none(3).is_right(piece=two), False)

    def test_pieces_without_kinds(self):
        for plan in (PLAN, Plan.none(500), ONE):
            self.same([plan.unserved(NONE), plan.is_right(NONE), plan.served_below(NONE)], [[], True, None])

    def test_places_of_lines(self):
        seen = {True: 0, False: 0}
        for piece in flat_pieces():
            for plan in made_plans(71, 12) + [PLAN, ONE, Plan.none(2)]:
                unserved = []
                for x in range(plan.period):
                    for kind in piece.kinds():
                        places = [(x + across, name) for across, _, name in piece[kind].entries()]
                        served = any(partner_of(plan, *one) == other for one in places for other in places)
                        for more in (x, x - 3 * plan.period, x + plan.period * FAR):
                            self.assertIs(plan.serves(piece, kind, more), served)
                        unserved += [] if served else [(x, kind)]
                        seen[served] += 1
                self.same(plan.unserved(piece), sorted(unserved))
                self.assertIs(plan.is_right(piece), unserved == [])
                lengths = [x + piece[kind].reach[0] + 1 for x, kind in unserved]
                self.same(plan.served_below(piece), min(lengths) if lengths else None)
        self.assertGreater(min(seen.values()), 100)

    def test_the_length_of_boxes(self):
        for piece in flat_pieces()[:14]:
            for plan in made_plans(72, 8, 5) + [PLAN]:
                below = plan.served_below(piece)
                for length in range(1, 14):
                    served = all(served_lines(plan, Box(piece, length)).values())
                    self.assertIs(served, below is None or length < below)

    def test_the_least_length_is_not_that_of_the_first_remainder(self):
        piece = Piece(["a", "b"], {"k": row("a", "a", "a", "a"), "l": Kind((0, 0, "b"), (0, 0, "a"))})
        plan = Plan(2, {(0, "a"): (0, "b"), (0, "b"): (0, "a")})
        self.same(plan.unserved(piece), [(0, "k"), (1, "k"), (1, "l")])
        self.same(plan.served_below(piece), 2)

    def test_a_choice_gives_a_right_plan(self):
        for piece in flat_pieces():
            choice = least_choice(piece)
            if choice is not None:
                partners = {}
                for (across, _, name), (farther, _, other) in choice.values():
                    partners[0, name], partners[0, other] = (farther - across, other), (across - farther, name)
                self.assertIs(Plan(1, partners).is_right(piece), True)

    def test_errors(self):
        for wrong in ODD + ["p", "x", ("r",), row("p", "q"), 1]:
            self.refused(UnknownKind, {"value": wrong}, ONE.serves, PQ, wrong, 0)
            self.refused(UnknownKind, {"value": wrong}, ONE.serves, TALL, wrong, None)
        for wrong in NO_COLUMNS:
            self.refused(InvalidColumn, {"value": wrong}, ONE.serves, PQ, "r", wrong)
            self.refused(InvalidColumn, {"value": wrong}, ONE.serves, TALL, "r", wrong)
        for kind in ("r", "t"):
            self.refused(NotFlat, {"value": TALL}, ONE.serves, TALL, kind, 0)
        for plan in (ONE, Plan.none(500)):
            for action in (plan.unserved, plan.is_right, plan.served_below):
                self.refused(NotFlat, {"value": TALL}, action, TALL)


class KeptTest(Case):

    def test_what_was_passed_may_be_changed(self):
        partners = {(1, "a"): (-1, "a"), (0, "a"): (1, "a")}
        plan = Plan(2, partners)
        self.assertEqual(list(partners), [(1, "a"), (0, "a")])
        partners[0, "a"] = None
        partners[0, "b"] = (0, "c")
        self.assertEqual(plan, PLAN)

    def test_what_was_returned_may_be_changed(self):
        plan = Plan(2, PAIRS)
        changed = plan.partners()
        changed[0, "a"] = None
        changed.pop((1, "a"))
        self.assertEqual(plan, PLAN)
        unserved = Plan.none().unserved(ROW)
        unserved.append(1)
        self.same(Plan.none().unserved(ROW), [(0, "k")])

    def test_what_is_passed_is_not_changed(self):
        plan, shown = Plan(2, PAIRS), repr(PLAN)
        plan.is_same(ONE), plan.reduced(), plan.mirrored(), plan.times(3), plan.unserved(ROW), plan.serves(ROW, "k", 5)
        _ = plan >> 3, plan << 3, plan == ONE, plan[0, "a"], plan(7, "a"), plan.is_right(ROW), plan.served_below(ROW)
        self.assertEqual((repr(plan), repr(ONE)), (shown, "Plan(1, {(0, 'p'): (1, 'q'), (0, 'q'): (-1, 'p')})"))
        wrong = {(0, "a"): (1, "a")}
        self.refused(InvalidPartners, {"value": {(0, "a"): (1, "a")}}, Plan, 2, wrong)
        self.same(wrong, {(0, "a"): (1, "a")})
        self.refused(InvalidPeriod, {"value": 0}, plan.times, 0)
        self.assertEqual(plan, PLAN)

    def test_methods_stand_in_the_class(self):
        wanted = {"__init__": ["period", "partners"], "partners": [], "is_same": ["other"], "reduced": [], "mirrored": [],
                  "times": ["many"], "serves": ["piece", "kind", "x"], "unserved": ["piece"], "is_right": ["piece"],
                  "served_below": ["piece"], "__call__": ["x", "name"]}
        for name, parameters in wanted.items():
            self.assertEqual(list(inspect.signature(vars(Plan)[name]).parameters), ["self"] + parameters)
        self.assertEqual(str(inspect.signature(Plan.none)), "(period=1)")
        for name in ("__getitem__", "__eq__", "__repr__", "__rshift__", "__lshift__"):
            self.assertIn(name, vars(Plan))
        self.assertIsInstance(vars(Plan)["period"], property)
        with self.assertRaises(AttributeError):
            setattr(PLAN, "period", 1)
        self.assertEqual(Plan.__module__, "twoeach.plans")


if __name__ == "__main__":
    unittest.main()
