import inspect
import itertools
import random
import unittest

from helpers import BIG, FAR, ODD, Case, flat_piece, made_pieces, row, small_flat_pieces
from test_plans import made_plans, partner_of
from twoeach import playing as module
from twoeach.boxes import Box
from twoeach.choices import least_choice
from twoeach.errors import InvalidChoice, InvalidMarks, NotFlat, UnknownCell, UnknownLine
from twoeach.kinds import Kind
from twoeach.pieces import Piece
from twoeach.plans import Plan
from twoeach.playing import first_unserved, led_by, pairs_in, partner_in, plan_of_choice

ROW = flat_piece("a", k="0a 1a 2a")
PQ = flat_piece("pq", r="0p 1q")
TALL = Piece(["p", "q"], {"r": row("p", "q"), "t": Kind((0, 0, "p"), (0, 1, "q"))})
PLAN = Plan(2, {(0, "a"): (1, "a"), (1, "a"): (-1, "a")})
ONE = Plan(1, {(0, "p"): (1, "q"), (0, "q"): (-1, "p")})
NO_LISTS = [None, True, False, 0, "", "p", {}, {(0, 0, "p"): 1}, {(0, 0, "p")}, range(0), object(), PLAN]


def flat_pieces():
    return small_flat_pieces() + made_pieces(91, 30, names=6, kinds=2, reach=3, most=6, flat=True)


def plain_pairs(plan, box, line):
    """By trying all pairs of cells of a line."""
    return sorted((one, other) for one, other in itertools.combinations(box.cells_of(line), 2)
                  if partner_of(plan, one[0], one[2]) == (other[0], other[2]))


class ChoiceTest(Case):

    def test_some(self):
        self.same(plan_of_choice(PQ, {"r": ((0, 0, "p"), (1, 0, "q"))}), ONE)
        self.same(plan_of_choice(piece=PQ, choice={"r": ((1, 0, "q"), (0, 0, "p"))}), ONE)
        self.same(plan_of_choice(Piece(["p"]), {}), Plan.none())
        piece = flat_piece("abcd", k="0a 3b 3c", l="1c 1d 0a")
        self.same(plan_of_choice(piece, {"k": ((3, 0, "b"), (0, 0, "a")), "l": ((1, 0, "c"), (1, 0, "d"))}),
                  Plan(1, {(0, "a"): (3, "b"), (0, "b"): (-3, "a"), (0, "c"): (0, "d"), (0, "d"): (0, "c")}))

    def test_choices_give_right_plans(self):
        seen = 0
        for piece in flat_pieces():
            choice = least_choice(piece)
            if choice is not None:
                plan = plan_of_choice(piece, choice)
                self.assertEqual(plan.period, 1)
                self.assertIs(plan.is_right(piece), True)
                self.assertEqual(len(plan.partners()), 2 * len(piece))
                self.assertIsNone(first_unserved(plan, Box.square(piece, FAR)))
                for kind, (one, other) in choice.items():
                    self.same(plan(BIG + one[0], one[2]), (BIG + other[0], other[2]))
                    self.same(plan(BIG + other[0], other[2]), (BIG + one[0], one[2]))
                    self.assertIs(plan.serves(piece, kind, -7), True)
                seen += len(piece) > 0
        self.assertGreater(seen, 10)

    def test_errors(self):
        for wrong in ODD + [{"r": ((0, 0, "p"), (1, 0, "p"))}, {"r": [(0, 0, "p"), (1, 0, "q")]}, {"r": ((False, 0, "p"), (1, 0, "q"))},
                            {"r": ((0, 0, "p"), (0, 0, "p"))}, {"x": ((0, 0, "p"), (1, 0, "q"))}, ((0, 0, "p"), (1, 0, "q"))]:
            self.refused(InvalidChoice, {"value": wrong}, plan_of_choice, PQ, wrong)
            self.refused(InvalidChoice, {"value": wrong}, plan_of_choice, TALL, wrong)
        tall = Piece(["p", "q"], {"t": Kind((0, 0, "p"), (0, 1, "q"))})
        self.refused(NotFlat, {"value": tall}, plan_of_choice, tall, {"t": ((0, 0, "p"), (0, 1, "q"))})


class PairsTest(Case):

    def test_some(self):
        box = Box(ROW, 5, 2)
        self.same(pairs_in(PLAN, box, (0, 1, "k")), [((0, 1, "a"), (1, 1, "a"))])
        self.same(pairs_in(PLAN, box, (1, 0, "k")), [((2, 0, "a"), (3, 0, "a"))])
        self.same(pairs_in(plan=Plan.none(), box=box, line=(1, 0, "k")), [])
        two = flat_piece("ab", k="0a 0b 1a 1b")
        self.same(pairs_in(PLAN, Box(two, 9, 9), (4, 4, "k")), [((4, 4, "a"), (5, 4, "a"))])
        both = Plan(1, {(0, "a"): (0, "b"), (0, "b"): (0, "a")})
        self.same(pairs_in(both, Box(two, 9), (4, 0, "k")), [((4, 0, "a"), (4, 0, "b")), ((5, 0, "a"), (5, 0, "b"))])
        crossed = Plan(1, {(0, "a"): (1, "b"), (0, "b"): (-1, "a")})
        self.same(pairs_in(crossed, Box(two, 9), (4, 0, "k")), [((4, 0, "a"), (5, 0, "b"))])

    def test_all_lines(self):
        for piece in flat_pieces():
            for plan in made_plans(92, 6, 5) + [PLAN, ONE, Plan.none(3)]:
                box = Box(piece, 7, 2)
                for line in box.all_lines():
                    self.same(pairs_in(plan, box, line), plain_pairs(plan, box, line))
                    self.assertIs(plan.serves(piece, line[2], line[0]), plain_pairs(plan, box, line) != [])

    def test_great_boxes(self):
        box = Box.square(ROW, FAR)
        self.same(pairs_in(PLAN, box, (BIG + 1, FAR - 1, "k")), [((BIG + 1, FAR - 1, "a"), (BIG + 2, FAR - 1, "a"))]
                  if BIG % 2 == 1 else [((BIG + 2, FAR - 1, "a"), (BIG + 3, FAR - 1, "a"))])
        self.same(pairs_in(PLAN, box, (FAR - 3, 0, "k")), [((FAR - 2, 0, "a"), (FAR - 1, 0, "a"))])

    def test_errors(self):
        for wrong in ODD + [(3, 0, "k"), (0, 2, "k"), (0, 0, "a"), (True, 0, "k"), (0, False, "k"), [0, 0, "k"]]:
            self.refused(UnknownLine, {"value": wrong}, pairs_in, PLAN, Box(ROW, 5, 2), wrong)
            self.refused(UnknownLine, {"value": wrong}, pairs_in, PLAN, Box(TALL, 5, 2), wrong)
        for line in ((0, 0, "r"), (0, 0, "t")):
            self.refused(NotFlat, {"value": TALL}, pairs_in, ONE, Box(TALL, 5, 2), line)


class UnservedTest(Case):

    def test_some(self):
        self.assertIsNone(first_unserved(PLAN, Box(ROW, 9, 9)))
        self.same(first_unserved(Plan.none(), Box(ROW, 9, 9)), (0, 0, "k"))
        self.assertIsNone(first_unserved(Plan.none(), Box(ROW, 2, 9)))
        pair = flat_piece("a", k="0a 1a")
        self.same(first_unserved(plan=PLAN, box=Box.square(pair, FAR)), (1, 0, "k"))
        self.assertIsNone(first_unserved(PLAN, Box(pair, 2)))
        self.same(first_unserved(PLAN, Box(pair, 3)), (1, 0, "k"))

    def test_a_longer_line_does_not_fit(self):
        piece = flat_piece("ab", k="0a 3a", l="0a 0b")
        plan = Plan(2, {(1, "a"): (0, "b"), (1, "b"): (0, "a")})
        self.same([first_unserved(plan, Box(piece, length)) for length in (1, 3, 4)], [(0, 0, "l"), (0, 0, "l"), (0, 0, "k")])
        late = Plan(2, {(0, "a"): (0, "b"), (0, "b"): (0, "a")})
        self.same([first_unserved(late, Box(piece, length)) for length in (1, 2, 3, 4)],
                  [None, (1, 0, "l"), (1, 0, "l"), (0, 0, "k")])

    def test_all_lines(self):
        seen = {True: 0, False: 0}
        for piece in flat_pieces():
            for plan in made_plans(93, 6, 6) + [PLAN, ONE, Plan.none(4)]:
                for wide, tall in ((1, 1), (2, 3), (4, 1), (9, 2)):
                    box = Box(piece, wide, tall)
                    unserved = [line for line in box.all_lines() if plain_pairs(plan, box, line) == []]
                    self.same(first_unserved(plan, box), unserved[0] if unserved else None)
                    below = plan.served_below(piece)
                    self.assertIs(first_unserved(plan, box) is None, below is None or wide < below)
                    seen[unserved == []] += 1
                below = plan.served_below(piece)
                self.assertEqual(first_unserved(plan, Box(piece, FAR, FAR)) is None, below is None)
                if below is not None:
                    self.assertIsNotNone(first_unserved(plan, Box(piece, below)))
                    self.assertTrue(below == 1 or first_unserved(plan, Box(piece, below - 1)) is None)
        self.assertGreater(min(seen.values()), 100)

    def test_a_long_period(self):
        partners = {(x, "a"): ((1, "a") if x % 2 == 0 else (-1, "a")) for x in range(498)}
        plan = Plan(500, partners)
        self.same(first_unserved(plan, Box.square(ROW, FAR)), (497, 0, "k"))
        self.assertIsNone(first_unserved(plan, Box(ROW, 499, FAR)))
        self.same(first_unserved(plan, Box(ROW, 500, FAR)), (497, 0, "k"))

    def test_errors(self):
        self.refused(NotFlat, {"value": TALL}, first_unserved, ONE, Box(TALL, 1))
        self.refused(NotFlat, {"value": TALL}, first_unserved, Plan.none(), Box(TALL, FAR, FAR))


class PartnerTest(Case):

    def test_some(self):
        box = Box(PQ, 4, 2)
        self.same(partner_in(ONE, box, (0, 1, "p")), (1, 1, "q"))
        self.same(partner_in(plan=ONE, box=box, cell=(1, 0, "q")), (0, 0, "p"))
        self.assertIsNone(partner_in(ONE, box, (3, 0, "p")))
        self.assertIsNone(partner_in(ONE, box, (0, 0, "q")))
        self.assertIsNone(partner_in(PLAN, box, (0, 0, "q")))

    def test_partners_with_names_that_the_piece_has_not(self):
        plan = Plan(1, {(0, "p"): (0, "z"), (0, "z"): (0, "p")})
        self.assertIsNone(partner_in(plan, Box(PQ, 4, 2), (1, 1, "p")))
        self.same(led_by(plan, Box(PQ, 4, 2), [(1, 1, "p")]), [None])

    def test_all_cells(self):
        for piece in flat_pieces()[:30]:
            for plan in made_plans(94, 10) + [PLAN, ONE]:
                box = Box(piece, 6, 2)
                for cell in box.all_cells():
                    partner = partner_of(plan, cell[0], cell[2])
                    wanted = partner and (partner[0], cell[1], partner[1])
                    self.same(partner_in(plan, box, cell), wanted if wanted in box.all_cells() else None)

    def test_great_boxes(self):
        box = Box.square(PQ, FAR)
        self.same(partner_in(ONE, box, (BIG, 5, "p")), (BIG + 1, 5, "q"))
        self.same(partner_in(ONE, box, (FAR - 1, FAR - 1, "q")), (FAR - 2, FAR - 1, "p"))
        self.assertIsNone(partner_in(ONE, box, (FAR - 1, 0, "p")))

    def test_errors(self):
        for wrong in ODD + [(4, 0, "p"), (0, 2, "p"), (0, 0, "z"), (True, 0, "p"), (0, False, "q"), [0, 0, "p"]]:
            self.refused(UnknownCell, {"value": wrong}, partner_in, ONE, Box(PQ, 4, 2), wrong)
            self.refused(UnknownCell, {"value": wrong}, partner_in, ONE, Box(TALL, 4, 2), wrong)
        self.refused(NotFlat, {"value": TALL}, partner_in, ONE, Box(TALL, 4, 2), (0, 0, "p"))


def plain_led(plan, box, marks):
    """What the second one marks, by the rule: the partner, if it is a cell that is free."""
    cells, marked, out = box.all_cells(), [], []
    for cell in marks:
        marked.append(cell)
        partner = partner_of(plan, cell[0], cell[2])
        answer = partner and (partner[0], cell[1], partner[1])
        out.append(answer if answer in cells and answer not in marked else None)
        marked.append(out[-1])
    return out


def played(source, box, reply):
    """What the first one marks, any free cell each time, until none is free; reply tells all that the second one marks."""
    marks, free = [], box.all_cells()
    while free:
        marks.append(source.choice(free))
        answer = reply(marks)[-1]
        free = [cell for cell in free if cell not in (marks[-1], answer)]
    return marks


class LedTest(Case):

    def test_some(self):
        box = Box(PQ, 3)
        self.same(led_by(ONE, box, [(0, 0, "p"), (0, 0, "q"), (2, 0, "q")]), [(1, 0, "q"), None, (1, 0, "p")])
        self.same(led_by(plan=ONE, box=box, marks=((2, 0, "p"), (1, 0, "q"))), [None, (0, 0, "p")])
        self.same(led_by(ONE, box, []), [])
        self.same(led_by(ONE, box, ()), [])

    def test_all_sequences(self):
        source = random.Random(95)
        for piece in flat_pieces()[::3]:
            for plan in made_plans(96, 5, 4) + [PLAN, ONE]:
                box = Box(piece, 4, 2)
                marks = played(source, box, lambda marks: plain_led(plan, box, marks))
                self.same(led_by(plan, box, marks), plain_led(plan, box, marks))

    def test_the_first_one_never_has_a_whole_line(self):
        source = random.Random(97)
        for piece in flat_pieces():
            choice = least_choice(piece)
            plan = PLAN if piece == ROW else None if choice is None else plan_of_choice(piece, choice)
            if plan is not None and plan.is_right(piece):
                for length in (1, 3, 6):
                    box = Box(piece, length)
                    marks = played(source, box, lambda marks: led_by(plan, box, marks))
                    self.assertFalse([line for line in box.all_lines() if set(box.cells_of(line)) <= set(marks)])

    def test_errors(self):
        box, tall = Box(PQ, 3, 2), Box(TALL, 3, 2)
        good = [(0, 0, "p"), (0, 1, "p")]
        for wrong in NO_LISTS:
            self.refused(InvalidMarks, {"position": None}, led_by, ONE, box, wrong)
            self.refused(InvalidMarks, {"position": None}, led_by, ONE, tall, wrong)
        for marks in ([], good, [None], good + good):
            self.refused(NotFlat, {"value": TALL}, led_by, ONE, tall, marks)
        for wrong in ODD + [(3, 0, "p"), (0, 2, "p"), (0, 0, "z"), (True, 0, "p"), (0, False, "q"), [0, 0, "p"]]:
            self.refused(InvalidMarks, {"position": 0}, led_by, ONE, box, [wrong, None])
            self.refused(InvalidMarks, {"position": 2}, led_by, ONE, box, (*good, wrong, good[0]))
        self.refused(InvalidMarks, {"position": 1}, led_by, ONE, box, [good[0], good[0]])
        # What the second one has marked is marked, too.
        self.refused(InvalidMarks, {"position": 1}, led_by, ONE, box, [(0, 0, "p"), (1, 0, "q"), None])
        self.refused(InvalidMarks, {"position": 2}, led_by, ONE, box, [(0, 0, "p"), (1, 1, "q"), (0, 1, "p")])


class KeptTest(Case):

    def test_the_example_of_the_document(self):
        self.same([PLAN.is_right(ROW), PLAN(FAR, "a") == (FAR + 1, "a"), Plan.none().served_below(ROW), (PLAN >> 1)[0, "a"]],
                  [True, True, 3, (-1, "a")])

    def test_what_is_passed_is_not_changed(self):
        choice, marks = {"r": ((0, 0, "p"), (1, 0, "q"))}, [(0, 0, "p"), (2, 0, "q")]
        plan, box = Plan(1, ONE.partners()), Box(PQ, 3)
        plan_of_choice(PQ, choice), led_by(plan, box, marks), pairs_in(plan, box, (0, 0, "r"))
        first_unserved(plan, box), partner_in(plan, box, (0, 0, "p"))
        self.same((choice, marks), ({"r": ((0, 0, "p"), (1, 0, "q"))}, [(0, 0, "p"), (2, 0, "q")]))
        self.assertEqual((plan, box), (ONE, Box(PQ, 3)))
        wrong = [(0, 0, "p"), (0, 0, "p")]
        self.refused(InvalidMarks, {"position": 1}, led_by, plan, box, wrong)
        self.same(wrong, [(0, 0, "p"), (0, 0, "p")])

    def test_what_was_returned_may_be_changed(self):
        box = Box(PQ, 3)
        for call in (lambda: led_by(ONE, box, [(0, 0, "p")]), lambda: pairs_in(ONE, box, (0, 0, "r"))):
            before, changed = call(), call()
            changed.append(1)
            changed[0] = None
            self.same(call(), before)

    def test_parameters(self):
        wanted = {"plan_of_choice": ["piece", "choice"], "pairs_in": ["plan", "box", "line"], "first_unserved": ["plan", "box"],
                  "partner_in": ["plan", "box", "cell"], "led_by": ["plan", "box", "marks"]}
        for name, parameters in wanted.items():
            self.assertEqual(list(inspect.signature(getattr(module, name)).parameters), parameters)
            self.assertEqual(getattr(module, name).__module__, "twoeach.playing")


if __name__ == "__main__":
    unittest.main()
