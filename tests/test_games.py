import inspect
import random
import unittest

from helpers import FAR, ODD, Case, flat_piece, made_pieces, row, small_flat_pieces
from test_columns import TALL
from test_found import THREE
from twoeach.answers import Answers
from twoeach.boxes import Box
from twoeach.choices import least_choice
from twoeach.errors import (
    CommandFailed, InvalidCommand, InvalidWay, LimitError, LineError, Marked, MissingError, NoAnswer, NothingToUndo, StateError, TooMany, UnknownCell,
    WrongTurn)
from twoeach.found import plan_for
from twoeach.games import Game
from twoeach.kinds import Kind
from twoeach.pieces import Piece
from twoeach.playing import partner_in, plan_of_choice
from twoeach.weights import Stand

NONE = Piece(["p"])
PQ = flat_piece("pq", r="0p 1q")
PAIR = flat_piece("a", k="0a 1a")
ROW = flat_piece("a", k="0a 1a 2a")
WIDE = flat_piece("abc", k="0a 1a 2a")
OWN = (InvalidCommand, InvalidWay, UnknownCell, Marked, WrongTurn, NoAnswer, NothingToUndo)
NO_WAYS = [None, True, False, 0, "", "Owned", "own", "owned ", ["owned"], ("owned",), {}, object(), Game, "third", "OWNED"]
NO_CELLS = ODD + [(4, 0, "p"), (0, 2, "p"), (0, 0, "r"), (True, 0, "p"), (0, False, "q"), [0, 0, "p"], Box(NONE, 1)]
NO_WHO = [None, True, False, 0, 1, "", "First", "first ", "nobody", ["first"], ("first",), {}, object()]


def shown(game):
    """All that can be seen of a game."""
    cells = [(cell, game[cell]) for cell in game.box.all_cells()]
    return game.box, game.way, game.turn, game.marks, cells, game.whole_lines("first"), game.whole_lines("second")


def plain_answer(box, way, marks):
    """The answer by the way to some marks, or None, by the functions of the other files."""
    piece, last = box.piece, marks[-1]
    if way == "most":
        return Stand(box, marks[::2], marks[1::2]).most()
    choice = least_choice(piece)
    if way == "owned":
        return None if choice is None else Answers(piece, choice)(box, last)
    if not piece.is_flat:
        return None
    if choice is None and len(piece.names()) * (piece.reach[0] + 1) > 8:
        return None
    plan = plan_for(piece) if choice is None else plan_of_choice(piece, choice)
    return None if plan is None else partner_in(plan, box, last)


def boxes():
    pieces = [NONE, PQ, PAIR, ROW, TALL, THREE, WIDE, *small_flat_pieces()[::5], *made_pieces(151, 10, names=2, kinds=2, reach=1, most=4),
              *made_pieces(152, 10, names=5, kinds=2, reach=2, most=4), *made_pieces(153, 5, names=4, kinds=2, reach=3, most=4, flat=True)]
    return [Box(piece, wide, tall) for piece in pieces for wide, tall in ((1, 1), (3, 2), (4, 1))]


class PartsTest(Case):

    def test_a_new_game(self):
        box = Box(PQ, 4, 2)
        game = Game(box)
        self.assertIs(game.box, box)
        self.same((game.way, game.turn, game.marks), ("owned", "first", 0))
        self.same((game.whole_lines("first"), game.whole_lines(who="second")), ([], []))
        self.assertIsNone(game[0, 0, "p"])
        for way in ("owned", "served", "most"):
            self.same(Game(box=box, way=way).way, way)

    def test_marks(self):
        game = Game(Box(PQ, 4, 2))
        game[0, 0, "p"] = "first"
        self.same((game.turn, game.marks, game[0, 0, "p"], game[1, 0, "q"]), ("second", 1, "first", None))
        game[1, 0, "q"] = "second"
        same = game
        game += (2, 1, "p")
        self.assertIs(game, same)
        game += (3, 1, "q")
        self.same((game.turn, game.marks, game[1, 0, "q"], game[2, 1, "p"], game[3, 1, "q"]), ("first", 4, "second", "first", "second"))

    def test_lines_whole(self):
        box = Box(PAIR, 5)
        game = Game(box)
        for x in (1, 3, 0, 4, 2):
            game += (x, 0, "a")
        self.same((game.whole_lines("first"), game.whole_lines("second")), ([(0, 0, "k"), (1, 0, "k")], [(3, 0, "k")]))
        self.same((game.turn, game.marks), ("second", 5))
        for wrong in NO_WHO:
            self.refused(InvalidCommand, {"value": wrong}, game.whole_lines, wrong)

    def test_ways(self):
        game = Game(Box(PQ, 4, 2))
        game += (0, 0, "p")
        for way in ("served", "most", "owned"):
            game.way = way
            self.same(game.way, way)
        game.undo()
        self.same((game.way, game.marks), ("owned", 0))
        for wrong in NO_WAYS:
            self.refused(InvalidWay, {"value": wrong}, Game, Box(PQ, 4, 2), wrong)
            self.refused(InvalidWay, {"value": wrong}, setattr, game, "way", wrong)
            self.same(game.way, "owned")

    def test_limits_and_one_more(self):
        self.same(Game(Box(PAIR, 201)).marks, 0)
        self.refused(TooMany, {"what": "lines", "limit": 200}, Game, Box(PAIR, 202))
        self.same(Game(Box(NONE, 2000)).marks, 0)
        self.refused(TooMany, {"what": "cells", "limit": 2000}, Game, Box(NONE, 2001))
        self.refused(TooMany, {"what": "cells", "limit": 2000}, Game, Box(NONE, FAR, FAR))
        self.refused(TooMany, {"what": "lines", "limit": 200}, Game, Box(PAIR, FAR, FAR))
        self.refused(InvalidWay, {"value": None}, Game, Box(PAIR, FAR, FAR), None)

    def test_properties_are_not_set(self):
        for name in ("box", "turn", "marks"):
            with self.assertRaises(AttributeError):
                setattr(Game(Box(NONE, 1)), name, 1)

    def test_not_iterated_over(self):
        with self.assertRaises(TypeError):
            iter(Game(Box(NONE, 1)))


class RefusedTest(Case):

    def setUp(self):
        self.game = Game(Box(PQ, 4, 2))
        self.game += (0, 0, "p")
        self.before = shown(self.game)

    def set(self, cell, who):
        self.game[cell] = who

    def add(self, cell):
        self.game += cell

    def unchanged(self):
        self.same(shown(self.game), self.before)

    def test_cells(self):
        for wrong in NO_CELLS:
            self.refused(UnknownCell, {"value": wrong}, lambda: self.game[wrong])
            self.refused(UnknownCell, {"value": wrong}, self.add, wrong)
            for who in ("first", "second", None):
                self.refused(UnknownCell, {"value": wrong}, self.set, wrong, who)
        self.unchanged()

    def test_who(self):
        for wrong in NO_WHO:
            for cell in ((0, 0, "p"), (1, 0, "q")):
                self.refused(InvalidCommand, {"value": wrong}, self.set, cell, wrong)
        self.unchanged()

    def test_marked_and_turn(self):
        self.refused(Marked, {"value": (0, 0, "p")}, self.add, (0, 0, "p"))
        for who in ("first", "second"):
            self.refused(Marked, {"value": (0, 0, "p")}, self.set, (0, 0, "p"), who)
        self.refused(WrongTurn, {"value": "first"}, self.set, (1, 0, "p"), "first")
        self.unchanged()
        self.game.undo()
        self.refused(WrongTurn, {"value": "second"}, self.set, (1, 0, "p"), "second")
        self.same((self.game.marks, self.game.turn), (0, "first"))

    def test_undo(self):
        self.game.undo()
        for _ in range(2):
            self.refused(NothingToUndo, {}, self.game.undo)
        self.same(shown(self.game), shown(Game(Box(PQ, 4, 2))))

    def test_answers(self):
        self.game += (3, 1, "p")
        before = shown(self.game)
        for way in ("owned", "served", "most"):
            self.game.way = way
            self.refused(WrongTurn, {"value": "second"}, self.game.answer)
            self.refused(WrongTurn, {"value": "second"}, self.game.reply)
            self.refused(WrongTurn, {"value": "second"}, Game(Box(NONE, 1), way).answer)
        self.game.way = "owned"
        self.same(shown(self.game), before)


class AnswersTest(Case):

    def test_some(self):
        for way in ("owned", "served"):
            game = Game(Box(PQ, 3), way)
            game += (0, 0, "p")
            self.same((game.answer(), game.marks, game.reply(), game.marks, game[1, 0, "q"]), ((1, 0, "q"), 1, (1, 0, "q"), 2, "second"))
            game += (2, 0, "p")
            self.refused(NoAnswer, {}, game.answer)
            self.refused(NoAnswer, {}, game.reply)
            self.same(game.marks, 3)
        game = Game(Box(PAIR, 4), "most")
        game += (1, 0, "a")
        self.same(game.reply(), (2, 0, "a"))
        game += (0, 0, "a")
        self.same(game.reply(), (3, 0, "a"))

    def test_an_answer_that_is_marked(self):
        for way in ("owned", "served"):
            game = Game(Box(PQ, 3), way)
            for cell in ((1, 0, "q"), (2, 0, "p"), (0, 0, "p")):
                game += cell
            self.refused(NoAnswer, {}, game.answer)
            self.refused(NoAnswer, {}, game.reply)

    def test_no_choice_or_plan(self):
        for way, piece in (("owned", ROW), ("owned", PAIR), ("served", PAIR), ("served", TALL), ("served", WIDE)):
            game = Game(Box(piece, 4, 2), way)
            game += (0, 0, piece.names()[0])
            self.refused(NoAnswer, {}, game.answer)

    def test_a_choice_beyond_the_limit(self):
        game = Game(Box(flat_piece("abc", k="0a 2b 2a"), 4), "served")
        game += (0, 0, "a")
        self.same(game.reply(), (2, 0, "b"))

    def test_no_free_cell(self):
        for way in ("owned", "served", "most"):
            game = Game(Box(NONE, 1), way)
            game += (0, 0, "p")
            self.same((game.turn, game.marks), ("second", 1))
            self.refused(NoAnswer, {}, game.answer)
            self.refused(NoAnswer, {}, game.reply)

    def test_games_played(self):
        source = random.Random(154)
        seen = {True: 0, False: 0}
        for box in boxes():
            for way in ("owned", "served", "most"):
                game, marks = Game(box, way), []
                free = box.all_cells()
                while free:
                    if game.turn == "second":
                        wanted = plain_answer(box, way, marks)
                        is_free = wanted in free
                        if is_free:
                            self.same(game.answer(), wanted)
                            cell = game.reply()
                            self.same(cell, wanted)
                        else:
                            self.refused(NoAnswer, {}, game.reply)
                            cell = source.choice(free)
                            game += cell
                        seen[is_free] += 1
                    else:
                        cell = source.choice(free)
                        game[cell] = "first"
                    marks.append(cell)
                    free.remove(cell)
                    self.assertEqual((game.marks, game.turn), (len(marks), "second" if len(marks) % 2 else "first"))
                self.same([game[cell] for cell in marks], ["first" if at % 2 == 0 else "second" for at in range(len(marks))])
                for who, own in (("first", marks[::2]), ("second", marks[1::2])):
                    self.same(game.whole_lines(who), [line for line in box.all_lines() if set(box.cells_of(line)) <= set(own)])
        self.assertGreater(min(seen.values()), 100)


class CopiesTest(Case):

    def test_undo(self):
        game = Game(Box(PQ, 4, 2), "most")
        cells = [(0, 0, "p"), (3, 1, "q"), (1, 0, "p"), (0, 0, "q")]
        steps = [shown(game)]
        for cell in cells:
            game += cell
            steps.append(shown(game))
        for step in reversed(steps[:-1]):
            game.undo()
            self.same(shown(game), step)
        self.refused(NothingToUndo, {}, game.undo)

    def test_copy(self):
        game = Game(Box(PQ, 4, 2), "most")
        for cell in ((2, 0, "p"), (1, 0, "q"), (0, 0, "p")):
            game += cell
        before = shown(game)
        other = game.copy()
        self.assertIsInstance(other, Game)
        self.assertIsNot(other, game)
        self.same(shown(other), before)
        other.way = "owned"
        other += (3, 1, "q")
        self.same(shown(game), before)
        after = shown(other)
        game.undo()
        self.assertIsNone(game[0, 0, "p"])
        self.same(shown(other), after)
        for cell in ((3, 1, "q"), (0, 0, "p"), (1, 0, "q"), (2, 0, "p")):
            other.undo()
            self.assertIsNone(other[cell])
        self.same((other.marks, game.marks), (0, 2))

    def test_the_sequence_is_copied(self):
        game = Game(Box(PQ, 4, 2))
        game += (3, 0, "p")
        game += (2, 0, "q")
        game += (1, 0, "p")
        other = game.copy()
        self.same(other.tried(lambda same: (same.undo(), same.marks, same[2, 0, "q"])), (None, 2, "second"))
        other.undo()
        self.same((other[1, 0, "p"], other[2, 0, "q"], other[3, 0, "p"]), (None, "second", "first"))

    def test_tried(self):
        game = Game(Box(PQ, 4, 2))
        game += (0, 0, "p")
        before = shown(game)
        given = []

        def action(other):
            given.append(other)
            other.way = "most"
            other.reply()
            return [other.marks]

        self.same(game.tried(action), [2])
        self.same(game.tried(action=action), [2])
        self.assertTrue(all(other is not game for other in given))
        self.same(shown(game), before)
        self.refused(Marked, {"value": (0, 0, "p")}, game.tried, lambda other: other.do("mark 0 0 p"))
        with self.assertRaises(KeyError):
            game.tried(lambda other: {}[other.marks])
        self.assertIsNone(game.tried(lambda other: None))
        self.same(shown(game), before)


class CommandsTest(Case):

    def test_some(self):
        game = Game(Box(PQ, 4, 2))
        for command, answer in (("turn", "first"), ("weight", "96"), ("mark 0 1 p", "done"), ("turn", "second"), ("weight", "112"), ("whole", "0"),
                                ("reply", "1 1 q"), ("turn", "first"), ("weight", "80"), ("undo", "done"), ("way most", "done"), ("reply", "1 1 q"),
                                ("mark 2 0 p", "done"), ("mark 0 0 p", "done"), ("mark 3 0 q", "done"), ("whole", "1"), ("undo", "done"),
                                ("whole", "0"), ("way served", "done"), ("way owned", "done"), ("turn", "first")):
            self.same(game.do(command), answer)
        self.same(game.do(command="whole"), "0")
        self.same((game.way, game.marks), ("owned", 4))

    def test_weights_and_whole_lines(self):
        source = random.Random(155)
        for box in boxes():
            game, marks = Game(box), source.sample(box.all_cells(), min(5, box.cells))
            for at, (x, y, name) in enumerate(marks, start=1):
                self.same(game.do(f"mark {x} {y} {name}"), "done")
                stand = Stand(box, marks[:at:2], marks[1:at:2])
                self.same((game.do("weight"), game.do("whole")), (str(stand.weight), str(len(stand.whole))))

    def test_no_commands(self):
        game = Game(Box(PQ, 4, 2))
        game += (0, 0, "p")
        before = shown(game)
        wrong = ["", " ", "mark", "mark ", "mark 0", "mark 0 0", "mark 0 0 ", "mark 0 0 p ", " mark 0 0 p", "mark  0 0 p", "mark 0  0 p", "mark 0 0  p",
                 "mark 0 0 p q", "Mark 0 0 p", "mark 00 0 p", "mark 0 00 p", "mark 01 0 p", "mark 0 01 p", "mark -1 0 p", "mark +1 0 p", "mark -0 0 p",
                 "mark 1.0 0 p", "mark a 0 p", "mark 0 a p", "mark 0 0 P", "mark 0 0 p1", "mark 0 0 abcdefghi", "mark 0 0 0", "mark 1_0 0 p", "mark 0,0,p",
                 "mark (0, 0, 'p')", "reply ", " reply", "reply 1", "Reply", "undo ", "undo 1", "undo undo", "turn ", "turns", "weight ", "weight 1", "whole ",
                 "whole first", "way", "way ", "way  owned", " way owned", "way owned ", "way owned most", "way  ", "Way owned", "mark\n0 0 p", "undo\n", "\nundo",
                 "reply\n", "mark 1 0 p\n", "mark 0\n 0 p", "done", "copy", "answer", "owned"]
        values = [value for value in ODD if not isinstance(value, str)] + [["undo"], ("undo",), b"undo", ["mark", 0, 0, "p"], (0, 0, "p"), game.box]
        for value in wrong + values:
            self.refused(InvalidCommand, {"value": value}, game.do, value)
            self.same(shown(game), before)

    def test_refused_commands(self):
        game = Game(Box(PQ, 4, 2))
        game += (3, 0, "p")
        before = shown(game)
        for command, cell in (("mark 4 0 p", (4, 0, "p")), ("mark 0 2 p", (0, 2, "p")), ("mark 0 0 z", (0, 0, "z")), ("mark 0 0 abcdefgh", (0, 0, "abcdefgh")),
                              (f"mark {FAR} 0 p", (FAR, 0, "p")), (f"mark 0 {10 * FAR - 1} p", (0, 10 * FAR - 1, "p"))):
            self.refused(UnknownCell, {"value": cell}, game.do, command)
        self.refused(Marked, {"value": (3, 0, "p")}, game.do, "mark 3 0 p")
        for word in ("x", "Owned", "0", "way", "first", "owned,", "owned;most"):
            self.refused(InvalidWay, {"value": word}, game.do, f"way {word}")
        self.refused(NoAnswer, {}, game.do, "reply")
        self.same(shown(game), before)
        game += (0, 0, "p")
        self.refused(WrongTurn, {"value": "second"}, game.do, "reply")
        self.refused(NothingToUndo, {}, Game(Box(NONE, 1)).do, "undo")

    def test_counts_of_many_figures(self):
        game = Game(Box(NONE, 1))
        for figures in (30, 5000, 19000):
            with self.assertRaises(UnknownCell) as caught:
                game.do(f"mark {'1' * figures} 0 p")
            self.assertEqual(caught.exception.value[0], (10 ** figures - 1) // 9)
            self.refused(InvalidCommand, {"value": f"mark 0{'1' * figures} 0 p"}, game.do, f"mark 0{'1' * figures} 0 p")
        self.assertEqual(game.marks, 0)


class ManyTest(Case):

    def test_some(self):
        game = Game(Box(PQ, 4, 2))
        self.same(game.do_all(), [])
        self.same(game.do_all("mark 0 1 p", "reply", "turn", "undo", "weight"), ["done", "1 1 q", "first", "done", "112"])
        self.same((game.marks, game.turn, game[0, 1, "p"]), (1, "second", "first"))
        self.same(game.do_all("way most"), ["done"])
        self.same(game.way, "most")

    def test_refused(self):
        game = Game(Box(PQ, 4, 2))
        game += (3, 0, "q")
        game += (0, 0, "q")
        game += (3, 1, "p")
        before = shown(game)
        good = ["mark 0 0 p", "mark 1 0 p", "reply", "way most", "undo", "undo", "undo", "mark 2 1 q", "mark 3 0 p", "way served"]
        for wrong, cause in (("mark 3 0 q", Marked), ("mark 9 0 p", UnknownCell), ("undo it", InvalidCommand), (None, InvalidCommand), ("way x", InvalidWay),
                             (["undo"], InvalidCommand), (True, InvalidCommand)):
            for at in range(len(good) + 1):
                position, error = at, cause
                if cause is Marked and at >= 6:
                    # By then the cell is marked or not; it is the first mark, which stays.
                    self.assertEqual(game[3, 0, "q"], "first")
                with self.assertRaises(CommandFailed) as caught:
                    game.do_all(*good[:at], wrong, *good[at:])
                self.assertEqual(vars(caught.exception), {"position": position})
                self.assertIs(caught.exception.__cause__.__class__, error)
                self.same(shown(game), before)
        self.same(len(game.do_all(*good)), len(good))

    def test_each_error_is_a_cause(self):
        for before, commands, cause in (([], ["undo"], NothingToUndo), ([], ["reply"], WrongTurn), ([], ["mark 3 0 p", "reply"], NoAnswer),
                                        ([], ["way most", "mark 0 0 p", "mark 0 0 p"], Marked), ([(0, 0, "p")], ["undo", "undo"], NothingToUndo)):
            game = Game(Box(PQ, 4, 2))
            for cell in before:
                game += cell
            seen = shown(game)
            with self.assertRaises(CommandFailed) as caught:
                game.do_all(*commands)
            self.assertEqual(caught.exception.position, len(commands) - 1)
            self.assertIs(caught.exception.__cause__.__class__, cause)
            self.same(shown(game), seen)
            self.assertTrue(issubclass(cause, (LineError, MissingError, StateError, LimitError)) and cause in OWN)

    def test_the_sequence_is_as_before(self):
        game = Game(Box(PQ, 4, 2))
        for cell in ((3, 0, "q"), (0, 0, "q"), (3, 1, "p")):
            game += cell
        self.refused(CommandFailed, {"position": 3}, game.do_all, "undo", "undo", "mark 1 1 p", "x")
        for cell in ((3, 1, "p"), (0, 0, "q"), (3, 0, "q")):
            self.assertIsNotNone(game[cell])
            game.undo()
            self.assertIsNone(game[cell])

    def test_two_games_do_not_change_one_another(self):
        box = Box(PQ, 4, 2)
        one, other = Game(box), Game(box)
        one += (0, 0, "p")
        one.way = "most"
        self.same((other.marks, other.way, other[0, 0, "p"]), (0, "owned", None))

    def test_three_hundred_marks(self):
        box = Box(NONE, 20, 20)
        game = Game(box, "most")
        for cell in box.all_cells()[::2][:140]:
            if game.turn == "first" and game[cell] is None:
                game += cell
                game.reply()
        self.assertGreater(game.marks, 100)

    def test_methods_stand_in_the_class(self):
        wanted = {"whole_lines": ["who"], "answer": [], "reply": [], "undo": [], "copy": [], "tried": ["action"], "do": ["command"], "do_all": ["commands"],
                  "__getitem__": ["at"], "__setitem__": ["at", "worth"], "__iadd__": ["other"]}
        for name, parameters in wanted.items():
            self.assertEqual(list(inspect.signature(vars(Game)[name]).parameters), ["self"] + parameters)
        self.assertEqual(str(inspect.signature(Game)), "(box, way='owned')")
        for name in ("box", "way", "turn", "marks"):
            self.assertIsInstance(vars(Game)[name], property)
        self.assertIsNotNone(vars(Game)["way"].fset)
        self.assertEqual(Game.__module__, "twoeach.games")

    def test_what_was_returned_may_be_changed(self):
        game = Game(Box(PAIR, 3))
        for cell in ((0, 0, "a"), (2, 0, "a"), (1, 0, "a")):
            game += cell
        changed = game.whole_lines("first")
        changed.append(1)
        self.same(game.whole_lines("first"), [(0, 0, "k")])
        answers = game.do_all("turn")
        answers.append(1)
        self.same(game.do_all("turn"), ["second"])


if __name__ == "__main__":
    unittest.main()
