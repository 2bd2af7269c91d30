"""A game: a box with marks of both by turns, which can be taken back."""

from twoeach.answers import Answers
from twoeach.basics import is_name
from twoeach.boxes import MOST_LISTED_CELLS, MOST_LISTED_LINES
from twoeach.checks import check_cell
from twoeach.choices import least_choice
from twoeach.errors import (
    CommandFailed, InvalidCommand, InvalidWay, LimitError, LineError, Marked, MissingError, NoAnswer, NothingToUndo,
    StateError, TooMany, WrongTurn)
from twoeach.found import plan_for
from twoeach.playing import partner_in, plan_of_choice
from twoeach.weights import Stand
from twoeach.windows import is_within_window

WHO = ("first", "second")
WAYS = ("owned", "served", "most")
DIGITS = "0123456789"


def check_way(way):
    """Raises InvalidWay unless a way."""
    if way not in WAYS:
        raise InvalidWay(way)


def check_who(who):
    """Raises InvalidCommand unless one of both."""
    if who not in WHO:
        raise InvalidCommand(who)


def is_written_count(word):
    """Whether a word is a COUNT as it is written by str."""
    return word != "" and all([letter in DIGITS for letter in word]) and (word == "0" or not word.startswith("0"))


def read_count(word):
    """The COUNT of a word."""
    # Python's int() refuses very long words, which are COUNTS as well.
    count = 0
    for letter in word:
        count = 10 * count + DIGITS.find(letter)
    return count


def is_mark_command(words):
    """Whether some words are the command that marks a cell."""
    if len(words) != 4 or words[0] != "mark" or not is_name(words[3]):
        return False
    return is_written_count(words[1]) and is_written_count(words[2])


def cell_text(cell):
    """A cell as it stands in commands and their answers."""
    x, y, name = cell
    return f"{x} {y} {name}"


def plan_to_serve(piece):
    """The plan by which the lines of a piece are served; None if there is none."""
    if not piece.is_flat:
        return None
    choice = least_choice(piece)
    if choice is not None:
        return plan_of_choice(piece, choice)
    return plan_for(piece) if is_within_window(piece) else None


class Game:
    """A box, a way in which the second one answers, and marks by turns."""

    def __init__(self, box, way="owned"):
        check_way(way)
        if box.lines > MOST_LISTED_LINES:
            raise TooMany("lines", MOST_LISTED_LINES)
        if box.cells > MOST_LISTED_CELLS:
            raise TooMany("cells", MOST_LISTED_CELLS)
        self._box = box
        self._way = way
        self._marks = {}

    @property
    def box(self):
        """The box that is marked."""
        return self._box

    @property
    def way(self):
        """The way in which the second one answers."""
        return self._way

    @way.setter
    def way(self, value):
        """Takes another way."""
        check_way(value)
        self._way = value

    @property
    def turn(self):
        """Who marks next."""
        return WHO[len(self._marks) % 2]

    @property
    def marks(self):
        """How many cells are marked."""
        return len(self._marks)

    def whole_lines(self, who):
        """The sorted list of the lines all of whose cells one has marked."""
        check_who(who)
        marked = self._marked_by(who)
        return [line for line in self._box.all_lines() if all([cell in marked for cell in self._box.cells_of(line)])]

    def answer(self):
        """The cell that the second one marks next by the way."""
        if self.turn != "second":
            raise WrongTurn("second")
        cell = self._cell_by_way()
        if cell is None or cell in self._marks:
            raise NoAnswer()
        return cell

    def reply(self):
        """Marks the answer, and returns it."""
        cell = self.answer()
        self._mark(cell)
        return cell

    def undo(self):
        """Takes back the last mark."""
        if len(self._marks) == 0:
            raise NothingToUndo()
        del self._marks[self._last()]

    def copy(self):
        """A game with the same box, way and marks, which changes independently."""
        other = Game(self._box, self._way)
        other._marks = self._marks_kept()
        return other

    def tried(self, action):
        """What an action returns that is called with a copy."""
        return action(self.copy())

    def do(self, command):
        """Performs a command, and returns its answer."""
        words = command.split(" ") if isinstance(command, str) else []
        if is_mark_command(words):
            self._check_and_mark((read_count(words[1]), read_count(words[2]), words[3]))
            return "done"
        if len(words) == 2 and words[0] == "way" and words[1] != "":
            self.way = words[1]
            return "done"
        if command == "undo":
            self.undo()
            return "done"
        if command == "reply":
            return cell_text(self.reply())
        return self._told(command)

    def do_all(self, *commands):
        """Performs commands, and returns the list of their answers; if one fails, none is performed."""
        marks, way = self._marks_kept(), self._way
        answers = []
        for position, command in enumerate(commands):
            try:
                answers.append(self.do(command))
            except (LineError, MissingError, StateError, LimitError) as error:
                self._marks, self._way = marks, way
                raise CommandFailed(position) from error
        return answers

    def _told(self, command):
        """The answer of a command that changes nothing."""
        if command == "turn":
            return self.turn
        if command == "weight":
            return str(self._stand().weight)
        if command == "whole":
            return str(len(self.whole_lines("first")))
        raise InvalidCommand(command)

    def _marks_kept(self):
        """A copy of the marks: a dict from cells to who marked them, in their sequence."""
        return {cell: self._marks[cell] for cell in self._marks}

    def _marked_by(self, who):
        """The list of the cells that one has marked."""
        return [cell for cell in self._marks if self._marks[cell] == who]

    def _last(self):
        """The cell marked last."""
        return list(self._marks)[-1]

    def _stand(self):
        """The stand of the box."""
        return Stand(self._box, self._marked_by("first"), self._marked_by("second"))

    def _cell_by_way(self):
        """The cell that is the answer by the way, if it is free; None if there is none."""
        if self._way == "most":
            return self._stand().most()
        piece = self._box.piece
        if self._way == "served":
            plan = plan_to_serve(piece)
            return None if plan is None else partner_in(plan, self._box, self._last())
        choice = least_choice(piece)
        if choice is None:
            return None
        answers = Answers(piece, choice)
        return answers(self._box, self._last())

    def _check_free(self, cell):
        """Raises an error if a cell is marked."""
        if cell in self._marks:
            raise Marked(cell)

    def _check_and_mark(self, cell):
        """Marks a cell for who has the turn, if it can be marked."""
        check_cell(self._box, cell)
        self._check_free(cell)
        self._mark(cell)

    def _mark(self, cell):
        """Marks a free cell for who has the turn."""
        self._marks[cell] = self.turn

    def __getitem__(self, at):
        check_cell(self._box, at)
        return self._marks.get(at)

    def __setitem__(self, at, worth):
        """Marks a cell for one of both."""
        check_cell(self._box, at)
        check_who(worth)
        self._check_free(at)
        if worth != self.turn:
            raise WrongTurn(worth)
        self._mark(at)

    def __iadd__(self, other):
        """Marks a cell for who has the turn."""
        self._check_and_mark(other)
        return self

    def __iter__(self):
        raise TypeError("a game is not iterated over")
