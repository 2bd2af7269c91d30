import inspect
import itertools
import random
import unittest

from helpers import FAR, ODD, Case, made_pieces, row
from twoeach import texts as module
from twoeach.errors import InvalidText
from twoeach.kinds import Kind
from twoeach.pieces import Piece
from twoeach.texts import piece_text, read_piece

PIECE = Piece(["q", "p"], {"t": Kind((0, 0, "p"), (0, 1, "p")), "r": row("p", "q")})
TEXT = "names p q\nkind r: 0,0,p 1,0,q\nkind t: 0,0,p 0,1,p\n"
GREAT = Piece([name * 8 for name in "abcdefghij"], {
    name: Kind((0, 0, 8 * "a"), (0, 3, 8 * "b"), (1, 1, 8 * "c"), (2, 2, 8 * "d"), (3, 0, 8 * "e"), (3, 3, 8 * other))
    for name, other in zip(["zzzzzzzz", "z", "yy", "y", "x", "w"], "efghij")})


def pieces():
    return [PIECE, Piece(["p"]), GREAT, Piece(list("abcdefghij")), *made_pieces(131, 25, names=3, kinds=6, reach=3, most=6),
            *made_pieces(132, 25, names=2, kinds=3, reach=1, most=4)]


def right_piece(text):
    """The piece whose text it is, by trying to make it from all words; None."""
    lines = text.split("\n")
    try:
        names = lines[0].split(" ")[1:]
        kinds = {}
        for line in lines[1:-1]:
            words = line.split(" ")
            entries = [word.split(",") for word in words[2:]]
            kinds[words[1][:-1]] = Kind(*[(int(across), int(up), name) for across, up, name in entries])
        piece = Piece(names, kinds)
    except Exception:
        return None
    return piece if plain_text(piece) == text else None


def plain_text(piece):
    text = "names"
    for name in piece.names():
        text += f" {name}"
    text += "\n"
    for kind in piece.kinds():
        text += f"kind {kind}:"
        for across, up, name in piece[kind].entries():
            text += f" {across},{up},{name}"
        text += "\n"
    return text


def plain_wrong_line(text):
    """By the words of the document; lines that are right so far are a right text themselves."""
    lines = text.split("\n")
    feeds = len(lines) - 1
    for number in range(1, feeds + 1):
        if right_piece("\n".join(lines[:number]) + "\n") is None:
            return number
    return feeds + 1


class TextTest(Case):

    def test_some(self):
        self.same(piece_text(PIECE), TEXT)
        self.same(piece_text(piece=Piece(["p"])), "names p\n")
        self.same(piece_text(Piece(["bb", "a", "b"])), "names a b bb\n")
        self.same(read_piece(TEXT), PIECE)
        self.same(read_piece(text="names p\n"), Piece(["p"]))

    def test_there_and_back(self):
        for piece in pieces():
            text = piece_text(piece)
            self.same(text, plain_text(piece))
            self.same(read_piece(text), piece)
            self.assertEqual(text.count("\n"), len(piece) + 1)
        self.assertIn("kind zzzzzzzz: 0,0,aaaaaaaa 0,3,bbbbbbbb 1,1,cccccccc", piece_text(GREAT))


class WrongTest(Case):

    def wrong(self, line, text):
        self.refused(InvalidText, {"line": line}, read_piece, text)
        self.assertEqual(plain_wrong_line(text), line)

    def test_no_strings(self):
        for value in [value for value in ODD if not isinstance(value, str)] + [TEXT.encode(), [TEXT], (TEXT,), PIECE, TEXT.split("\n"), FAR]:
            self.refused(InvalidText, {"line": None}, read_piece, value)

    def test_empty_and_without_a_last_line_feed(self):
        self.wrong(1, "")
        self.wrong(1, "\n")
        self.wrong(1, "names p")
        self.wrong(1, "name")
        self.wrong(2, "names p q\nkind r: 0,0,p 1,0,q")
        self.wrong(2, "names p q\nk")
        self.wrong(3, TEXT[:-1])
        self.wrong(3, TEXT[:-3])
        self.wrong(4, TEXT + " ")
        self.wrong(4, TEXT + "kind u: 0,0,p 1,0,p")
        self.wrong(4, TEXT + "\n")
        self.wrong(1, "\n" + TEXT)

    def test_wrong_names(self):
        for line in ("names", "names ", "name p", "Names p", "names  p", " names p", "names p ", "names q p", "names p p", "names P",
                     "names p,q", "names abcdefghi", "names p1", "names a b c d e f g h i j k", "p", "kind r: 0,0,p 1,0,q", "names\tp"):
            self.wrong(1, line + "\n")
            self.wrong(1, line + "\nkind r: 0,0,p 1,0,q\n")
            self.wrong(1, line + "\nrubbish")
        self.same(read_piece("names a b c d e f g h i j\n"), Piece(list("abcdefghij")))

    def test_wrong_kinds(self):
        for line in ("", "kind", "kind ", "kind r", "kind r:", "kind r: ", "kind : 0,0,p 1,0,q", "kind r: 0,0,p", "kind r:0,0,p 1,0,q", "kindr: 0,0,p 1,0,q",
                     "kind  r: 0,0,p 1,0,q", "kind r:  0,0,p 1,0,q", "kind r: 0,0,p  1,0,q", "kind r: 0,0,p 1,0,q ", " kind r: 0,0,p 1,0,q",
                     "kind r : 0,0,p 1,0,q", "kind r:: 0,0,p 1,0,q", "kind R: 0,0,p 1,0,q", "kind rrrrrrrrr: 0,0,p 1,0,q", "kind r1: 0,0,p 1,0,q",
                     "Kind r: 0,0,p 1,0,q", "names p q", "kind r; 0,0,p 1,0,q", "kind r: 1,0,q 0,0,p", "kind r: 0,0,p 0,0,p", "kind r: 1,0,p 2,0,q",
                     "kind r: 0,1,p 0,2,q", "kind r: 0,0,p 4,0,q", "kind r: 0,0,p 0,4,q", "kind r: 0,0,p 0,0,z", "kind r: 0,0,p 1,0,", "kind r: 0,0,p 1,0",
                     "kind r: 0,0,p 1,0,q,q", "kind r: 0,0,p 01,0,q", "kind r: 0,0,p 1,00,q", "kind r: 0,0,p +1,0,q", "kind r: 0,-0,p 1,0,q",
                     "kind r: -1,0,p 0,0,q", "kind r: 0,0,p 1,,q", "kind r: 0,0,p ,0,q", "kind r: 0 0 p 1 0 q", "kind r: (0,0,p) (1,0,q)", "kind r: 0,0,P 1,0,q",
                     "kind r: 0,0,p 1,0,p 2,0,p 3,0,p 3,0,q 3,1,q 3,2,q", "kind r: 0,0,p 12,0,q", "kind r: 0,0,p 1,0,q;", "kind r: 0,1,p 1,0,q 1,2,q 1,0,p",
                     "kind r: 0,0,q 0,0,p", "kind r: 0,2,p 1,1,q"):
            self.wrong(2, f"names p q\n{line}\n")
            self.wrong(2, f"names p q\n{line}\nkind t: 0,0,p 0,1,p\n")
            self.wrong(2, f"names p q\n{line}\n?")
        for line in ("kind r: 0,0,p 1,0,p 2,0,p 3,0,p 3,0,q 3,1,q", "kind r: 0,1,p 1,0,q", "kind r: 0,0,p 0,0,q", "kind kind: 0,3,p 3,0,q"):
            self.assertIsNotNone(right_piece(f"names p q\n{line}\n"))
            self.same(read_piece(f"names p q\n{line}\n"), right_piece(f"names p q\n{line}\n"))

    def test_wrong_sequences(self):
        one, other = "kind r: 0,0,p 1,0,q\n", "kind t: 0,0,p 0,1,p\n"
        self.wrong(3, "names p q\n" + other + one)
        self.wrong(3, "names p q\n" + one + one)
        self.wrong(3, "names p q\n" + one + "kind r: 0,0,p 0,1,p\n")
        self.wrong(3, "names p q\n" + one + "kind s: 0,0,p 1,0,q\n")
        self.wrong(4, "names p q\n" + one + other + "kind u: 0,0,p 1,0,q\n")
        self.wrong(3, "names p q\n" + one + "names p q\n")
        self.wrong(2, "names p q\nnames p q\n")
        self.wrong(4, TEXT + TEXT)
        self.same(read_piece("names p q\n" + one + "kind rr: 0,0,p 0,1,p\n").kinds(), ["r", "rr"])

    def test_six_kinds_and_one_more(self):
        lines = [f"kind {name}: 0,0,p {at},{up},q\n" for name, (at, up) in zip("abcdefg", itertools.product(range(2), range(4)))]
        self.same(len(read_piece("names p q\n" + "".join(lines[:6]))), 6)
        self.wrong(8, "names p q\n" + "".join(lines[:7]))
        self.wrong(8, "names p q\n" + "".join(lines[:7]) + "\n")
        self.wrong(8, "names p q\n" + "".join(lines[:6]) + "kind")

    def test_changed_texts(self):
        source = random.Random(133)
        seen = {"right": 0, "wrong": 0}
        for piece in pieces():
            text = piece_text(piece)
            for _ in range(60):
                at = source.randrange(len(text) + 1)
                letters = source.choice([" ", "\n", ",", ":", "0", "1", "3", "p", "a", "z", "", "kind", "A"])
                changed = text[:at] + letters + text[at + source.randint(0, 2):]
                wanted = right_piece(changed)
                if wanted is None:
                    self.wrong(plain_wrong_line(changed), changed)
                else:
                    self.same(read_piece(changed), wanted)
                seen["wrong" if wanted is None else "right"] += 1
        self.assertGreater(min(seen.values()), 50)

    def test_parameters(self):
        for name, parameters in {"piece_text": ["piece"], "read_piece": ["text"]}.items():
            self.assertEqual(list(inspect.signature(getattr(module, name)).parameters), parameters)
            self.assertEqual(getattr(module, name).__module__, "twoeach.texts")


if __name__ == "__main__":
    unittest.main()
