import inspect
import itertools
import unittest

from helpers import ODD, Case, made_pieces, row
from twoeach.answers import Answers
from twoeach.boxes import Box
from twoeach.choices import least_choice
from twoeach.errors import InvalidChoice, InvalidMarks, OtherPiece, UnknownCell, UnknownLine
from twoeach.kinds import Kind
from twoeach.pieces import Piece

P, Q = (0, 0, "p"), (1, 0, "q")
RIGHT = Piece(["p", "q"], {"r": row("p", "q")})
MORE = Piece(["p", "q", "y", "z"], {"r": row("q", "p", "q"), "t": Kind((1, 0, "z"), (0, 1, "y"), (0, 0, "p"))})
CHOICE = {"t": ((1, 0, "z"), (0, 1, "y")), "r": ((2, 0, "q"), (1, 0, "p"))}
FAR = 10 ** 30


def paired_pieces():
    pieces = [RIGHT, MORE, Piece(["p"]), Piece(["p", "q"], {"k": Kind((0, 0, "p"), (0, 0, "q"))}),
              *made_pieces(21, 60, names=4, kinds=2, reach=2, most=4), *made_pieces(22, 60, names=6, kinds=3, reach=1, most=5)]
    return [piece for piece in pieces if least_choice(piece) is not None]


def plain_owned(box, choice):
    """A dict from all lines of a box to the cells that they own."""
    return {(x, y, kind): tuple(sorted((x + across, y + up, name) for across, up, name in choice[kind]))
            for x, y, kind in box.all_lines()}


def plain_led(box, choice, marks):
    """What the second one marks, by the rule: the other cell of the pair, if it is free."""
    owned, marked, out = plain_owned(box, choice), [], []
    for cell in marks:
        marked.append(cell)
        others = [other for pair in owned.values() for other in pair if cell in pair and other != cell]
        out.append(others[0] if others and others[0] not in marked else None)
        marked.append(out[-1])
    return out


class ConstructorTest(Case):

    def test_parts(self):
        answers = Answers(MORE, CHOICE)
        self.assertEqual(answers.piece, MORE)
        self.same(answers.choice, {"r": ((1, 0, "p"), (2, 0, "q")), "t": ((0, 1, "y"), (1, 0, "z"))})
        self.assertEqual(list(answers.choice), ["r", "t"])
        self.assertEqual(Answers(piece=MORE, choice=CHOICE), answers)
        self.same(Answers(Piece(["p"]), {}).choice, {})

    def test_wrong_choices(self):
        for wrong in ODD + [{"r": (P, Q)}, {"r": ((0, 0, "q"), (2, 0, "q")), "t": CHOICE["t"]},
                            {"r": list(CHOICE["r"]), "t": CHOICE["t"]}, {**CHOICE, "z": CHOICE["r"]},
                            {"r": ((1, 0, "p"), (2, 0, "q")), "t": ((0, 0, "p"), (1, 0, "z"))},
                            {"r": ((True, 0, "p"), (2, 0, "q")), "t": CHOICE["t"]}, Answers, MORE]:
            self.refused(InvalidChoice, {"value": wrong}, Answers, MORE, wrong)
        self.refused(InvalidChoice, {"value": None}, Answers, Piece(["p"], {"k": row("p", "p")}), None)
        self.refused(InvalidChoice, {"value": {}}, Answers, RIGHT, {})
        self.refused(InvalidChoice, {"value": {"k": (P, Q)}}, Answers, Piece(["p"]), {"k": (P, Q)})

    def test_equal(self):
        answers = Answers(RIGHT, {"r": (P, Q)})
        self.assertTrue(answers == Answers(RIGHT, {"r": (Q, P)}))
        self.assertFalse(answers != Answers(RIGHT, {"r": (Q, P)}))
        three = Piece(["p", "q"], {"r": row("p", "q", "q")})
        one, other = Answers(three, {"r": (P, Q)}), Answers(three, {"r": (P, (2, 0, "q"))})
        for unlike in (one, other, Answers(RIGHT | Piece(["z"]), {"r": (P, Q)}), None, {"r": (P, Q)}, RIGHT, "r", 0):
            self.assertFalse(answers == unlike)
            self.assertTrue(answers != unlike)
        self.assertFalse(one == other)

    def test_properties_are_not_set(self):
        for name in ("piece", "choice"):
            with self.assertRaises(AttributeError):
                setattr(Answers(RIGHT, {"r": (P, Q)}), name, 1)


class AnswersTest(Case):

    def test_some(self):
        answers, box = Answers(RIGHT, {"r": (P, Q)}), Box(RIGHT, 4, 2)
        self.same(answers(box, (0, 1, "p")), (1, 1, "q"))
        self.same(answers(box, (1, 1, "q")), (0, 1, "p"))
        self.assertIsNone(answers(box, (3, 0, "p")))
        self.assertIsNone(answers(box, (0, 0, "q")))
        self.same(answers.owner(box, (2, 0, "q")), (1, 0, "r"))
        self.assertIsNone(answers.owner(box, (0, 0, "q")))
        self.assertIsNone(answers.owner(box, (3, 0, "p")))
        self.same(answers.owned(box, (2, 1, "r")), ((2, 1, "p"), (3, 1, "q")))
        self.same(answers(box=box, cell=(0, 1, "p")), (1, 1, "q"))
        self.same(answers.owner(box=box, cell=(0, 1, "p")), (0, 1, "r"))
        self.same(answers.owned(box=box, line=(0, 1, "r")), ((0, 1, "p"), (1, 1, "q")))

    def test_the_chosen_entries_need_not_be_the_first(self):
        answers, box = Answers(MORE, CHOICE), Box(MORE, 5, 4)
        self.same(answers(box, (3, 1, "q")), (2, 1, "p"))
        self.same(answers(box, (2, 1, "p")), (3, 1, "q"))
        self.assertIsNone(answers(box, (1, 1, "q")))
        self.assertIsNone(answers(box, (0, 1, "p")))
        self.same(answers(box, (3, 1, "z")), (2, 2, "y"))
        self.same(answers(box, (2, 2, "y")), (3, 1, "z"))
        self.assertIsNone(answers(box, (3, 3, "z")))
        self.assertIsNone(answers(box, (0, 0, "y")))
        self.assertIsNone(answers(box, (0, 0, "z")))

    def test_all_cells_of_small_boxes(self):
        for piece in paired_pieces():
            answers = Answers(piece, least_choice(piece))
            for wide, tall in ((1, 1), (2, 3), (4, 1), (4, 4)):
                box = Box(piece, wide, tall)
                owned = plain_owned(box, answers.choice)
                for line, pair in owned.items():
                    self.same(answers.owned(box, line), pair)
                for cell in box.all_cells():
                    owners = [line for line, pair in owned.items() if cell in pair]
                    self.same(answers.owner(box, cell), owners[0] if owners else None)
                    others = [other for line in owners for other in owned[line] if other != cell]
                    self.same(answers(box, cell), others[0] if others else None)

    def test_great_boxes(self):
        answers, box = Answers(RIGHT, {"r": (P, Q)}), Box.square(RIGHT, FAR)
        x, y, end = 123456789012345678901234567890, 10 ** 29 + 7, FAR - 1
        self.same(answers(box, (x, y, "p")), (x + 1, y, "q"))
        self.same(answers(box, (x, y, "q")), (x - 1, y, "p"))
        self.same(answers(box, (end, end, "q")), (end - 1, end, "p"))
        self.assertIsNone(answers(box, (end, end, "p")))
        self.assertIsNone(answers(box, (0, end, "q")))
        self.same(answers.owner(box, (end, end, "q")), (end - 1, end, "r"))
        self.same(answers.owned(box, (end - 1, 0, "r")), ((end - 1, 0, "p"), (end, 0, "q")))

    def test_errors(self):
        answers, box, other = Answers(RIGHT, {"r": (P, Q)}), Box(RIGHT, 4, 2), Box(MORE, 4, 2)
        for wrong in ODD + [(4, 0, "p"), (0, 2, "p"), (0, 0, "z"), (True, 0, "p"), (0, False, "q"), [0, 0, "p"], box]:
            for action in (answers, answers.owner):
                self.refused(UnknownCell, {"value": wrong}, action, box, wrong)
        for wrong in ODD + [(3, 0, "r"), (0, 2, "r"), (0, 0, "p"), (True, 0, "r"), (0, False, "r"), [0, 0, "r"], box]:
            self.refused(UnknownLine, {"value": wrong}, answers.owned, box, wrong)
        self.refused(UnknownCell, {"value": (9, 9, "p")}, answers, other, (9, 9, "p"))
        self.refused(UnknownCell, {"value": None}, answers.owner, other, None)
        self.refused(UnknownLine, {"value": (4, 0, "r")}, answers.owned, other, (4, 0, "r"))
        parts = {"one": RIGHT, "other": MORE}
        for cell in ((0, 0, "p"), (0, 0, "z"), (3, 1, "q")):
            self.refused(OtherPiece, parts, answers, other, cell)
            self.refused(OtherPiece, parts, answers.owner, other, cell)
        self.refused(OtherPiece, parts, answers.owned, other, (0, 0, "r"))
        self.same(answers(Box(Piece(["q", "p"], {"r": row("p", "q")}), 2), P), Q)


class LedTest(Case):

    def setUp(self):
        self.answers, self.box = Answers(RIGHT, {"r": (P, Q)}), Box(RIGHT, 3, 2)

    def test_some(self):
        led = self.answers.led
        self.same(led(self.box, []), [])
        self.same(led(self.box, ((0, 0, "p"), (2, 1, "q"))), [(1, 0, "q"), (1, 1, "p")])
        self.same(led(box=self.box, marks=[(2, 0, "p"), (0, 1, "q"), (1, 0, "p")]), [None, None, (2, 0, "q")])

    def test_a_cell_is_marked_when_its_turn_comes(self):
        led, box = self.answers.led, self.box
        self.refused(InvalidMarks, {"position": 1}, led, box, [(0, 0, "p"), (0, 0, "p")])
        self.refused(InvalidMarks, {"position": 1}, led, box, [(0, 0, "p"), (1, 0, "q")])
        self.refused(InvalidMarks, {"position": 2}, led, box, [(0, 0, "p"), (2, 0, "p"), (1, 0, "q"), None])
        self.refused(InvalidMarks, {"position": 2}, led, box, [(2, 0, "p"), (1, 0, "p"), (2, 0, "p")])

    def test_no_marks(self):
        led, box = self.answers.led, self.box
        for wrong in (None, True, 0, "", "marks", {}, {P: 1}, {P}, range(0), object(), box):
            self.refused(InvalidMarks, {"position": None}, led, box, wrong)
            self.refused(InvalidMarks, {"position": None}, led, Box(MORE, 3, 2), wrong)
        for wrong in ODD + [(3, 0, "p"), (0, 2, "p"), (0, 0, "z"), (False, 0, "p"), (0, True, "p"), [0, 0, "p"], (0, 0, "r")]:
            self.refused(InvalidMarks, {"position": 0}, led, box, [wrong, P])
            self.refused(InvalidMarks, {"position": 1}, led, box, (P, wrong, P))

    def test_other_piece_ahead_of_wrong_marks(self):
        parts = {"one": RIGHT, "other": MORE}
        for marks in ([], [None], [P, P], (), [P]):
            self.refused(OtherPiece, parts, self.answers.led, Box(MORE, 3, 2), marks)

    def test_great_boxes(self):
        box, end = Box.square(RIGHT, FAR), FAR - 1
        marks = [(end, end, "p"), (10 ** 29, 0, "p"), (end, end, "q"), (0, 5, "q")]
        self.same(self.answers.led(box, marks), [None, (10 ** 29 + 1, 0, "q"), (end - 1, end, "p"), None])

    def test_all_games_of_small_boxes(self):
        # Whatever the first one marks, down to the last free cell, it never has a whole line.
        def play(answers, box, marks):
            led = answers.led(box, marks)
            self.same(led, plain_led(box, answers.choice, marks))
            for line in box.all_lines():
                self.assertFalse(set(box.cells_of(line)) <= set(marks))
            for cell in box.all_cells():
                if cell not in marks and cell not in led:
                    play(answers, box, marks + [cell])
                else:
                    self.refused(InvalidMarks, {"position": len(marks)}, answers.led, box, marks + [cell])

        three = Piece(["p", "q"], {"k": Kind(P, (1, 0, "p"), (1, 0, "q"))})
        for piece, wide, tall in ((RIGHT, 3, 1), (RIGHT, 1, 2), (three, 3, 1), (Piece(["p"]), 3, 1),
                                  (Piece(["p", "q"], {"k": Kind(P, (0, 1, "q"))}), 1, 3)):
            box = Box(piece, wide, tall)
            answers = Answers(piece, least_choice(piece))
            play(answers, box, [])

    def test_marks_in_some_sequences(self):
        for piece in paired_pieces()[::4]:
            answers, box = Answers(piece, least_choice(piece)), Box(piece, 3, 2)
            cells = box.all_cells()
            for step in (1, 5, 7):
                marks = []
                for at in range(len(cells)):
                    cell = cells[at * step % len(cells)]
                    if cell not in marks and cell not in answers.led(box, marks):
                        marks.append(cell)
                self.same(answers.led(box, marks), plain_led(box, answers.choice, marks))


class KeptTest(Case):

    def test_what_was_passed_may_be_changed(self):
        choice = {"t": CHOICE["t"], "r": CHOICE["r"]}
        answers = Answers(MORE, choice)
        self.assertEqual(list(choice.items()), [("t", CHOICE["t"]), ("r", CHOICE["r"])])
        choice["r"] = None
        del choice["t"]
        self.assertEqual(answers, Answers(MORE, CHOICE))
        self.same(answers(Box(MORE, 5, 4), (3, 1, "q")), (2, 1, "p"))

    def test_what_was_returned_may_be_changed(self):
        answers, box = Answers(MORE, CHOICE), Box(MORE, 5, 4)
        changed = answers.choice
        changed["r"] = None
        changed["x"] = 1
        self.assertEqual(answers, Answers(MORE, CHOICE))
        marks = [(3, 1, "q")]
        led = answers.led(box, marks)
        led.append(1)
        self.same(answers.led(box, marks), [(2, 1, "p")])

    def test_what_is_passed_is_not_changed(self):
        answers, box, marks = Answers(RIGHT, {"r": (P, Q)}), Box(RIGHT, 3), [P, (2, 0, "p")]
        answers.led(box, marks)
        self.same(marks, [P, (2, 0, "p")])
        wrong = [P, P]
        self.refused(InvalidMarks, {"position": 1}, answers.led, box, wrong)
        self.same(wrong, [P, P])
        self.assertEqual((answers, box), (Answers(RIGHT, {"r": (P, Q)}), Box(RIGHT, 3)))
        self.same(answers.led(box, marks), answers.led(box, marks))

    def test_methods_stand_in_the_class(self):
        wanted = {"owner": ["box", "cell"], "owned": ["box", "line"], "led": ["box", "marks"], "__call__": ["box", "cell"],
                  "__init__": ["piece", "choice"]}
        for name, parameters in wanted.items():
            self.assertEqual(list(inspect.signature(vars(Answers)[name]).parameters), ["self"] + parameters)
        self.assertIn("__eq__", vars(Answers))
        for name in ("piece", "choice"):
            self.assertIsInstance(vars(Answers)[name], property)
        self.assertEqual(Answers.__module__, "twoeach.answers")


if __name__ == "__main__":
    unittest.main()
