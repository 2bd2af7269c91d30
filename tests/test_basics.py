import unittest

from twoeach.basics import is_count, is_integer, is_list, is_name
from twoeach.kinds import Kind

NEVER = [None, True, False, "", "P", "p q", " p", "p\n", "p1", "_", "1", "\u00e9", "\u00aa", "\uff50", b"p", [], ["p"],
         (), (1,), ("p",), {}, {"p": 1}, set(), object(), int, is_name, Kind((0, 0, "p"), (1, 0, "p"))]


class IntegerTest(unittest.TestCase):

    def test_integers(self):
        for value in (0, 1, -1, 20, -20, 10 ** 30, -10 ** 62):
            self.assertIs(is_integer(value), True, value)

    def test_no_integers(self):
        for value in NEVER + ["p", "abcdefgh"]:
            self.assertIs(is_integer(value), False, repr(value))

    def test_by_name(self):
        self.assertIs(is_integer(value=3), True)


class CountTest(unittest.TestCase):

    def test_counts(self):
        for value in (0, 1, 2, 10 ** 30):
            self.assertIs(is_count(value), True, value)

    def test_no_counts(self):
        for value in NEVER + ["p", -1, -2, -10 ** 30]:
            self.assertIs(is_count(value), False, repr(value))

    def test_by_name(self):
        self.assertIs(is_count(value=-3), False)


class NameTest(unittest.TestCase):

    def test_one_to_eight_letters(self):
        for value in ("a", "z", "m", "ab", "zz", "abcdefg", "abcdefgh", "zzzzzzzz"):
            self.assertIs(is_name(value), True, value)

    def test_every_letter(self):
        self.assertEqual([chr(code) for code in range(32, 127) if is_name(chr(code))], list("abcdefghijklmnopqrstuvwxyz"))

    def test_none_and_nine_letters(self):
        for value in ("", "abcdefghi", "a" * 20000):
            self.assertIs(is_name(value), False, value)

    def test_a_wrong_letter_at_any_place(self):
        for at in range(8):
            for wrong in ("A", "Z", "0", " ", "-", "_", "\n", "`", "{", "\u00df"):
                value = "abcdefgh"[:at] + wrong + "abcdefgh"[at + 1:]
                self.assertIs(is_name(value), False, repr(value))

    def test_no_names(self):
        for value in NEVER + [0, 1, -1, ["p"] * 8]:
            self.assertIs(is_name(value), False, repr(value))

    def test_by_name(self):
        self.assertIs(is_name(value="p"), True)


class ListTest(unittest.TestCase):

    def test_lists_and_tuples(self):
        self.assertEqual([is_list(value) for value in ([], (), [1], ("p",))], [True] * 4)

    def test_others(self):
        self.assertEqual([is_list(value) for value in (None, "ab", {}, set(), 3, range(2), iter([]))], [False] * 7)


if __name__ == "__main__":
    unittest.main()
