import itertools
import unittest

from twoeach.sorting import in_order


class InOrderTest(unittest.TestCase):

    def test_all_sequences_of_small_numbers(self):
        for many in range(6):
            for rows in itertools.product(range(3), repeat=many):
                self.assertEqual(in_order(list(rows)), sorted(rows))

    def test_tuples_and_strings(self):
        rows = [(1, "b"), (1, "a"), (-1, "z"), (0, "c"), (1, "a")]
        self.assertEqual(in_order(rows), sorted(rows))
        self.assertEqual(in_order(["q", "pp", "p", "r"]), ["p", "pp", "q", "r"])

    def test_a_long_list(self):
        rows = [(7919 * number) % 2003 for number in range(2000)]
        self.assertEqual(in_order(rows), sorted(rows))

    def test_a_tuple_gives_a_list(self):
        self.assertEqual([in_order(()), in_order((2,)), in_order((2, 1))], [[], [2], [1, 2]])

    def test_the_result_is_new(self):
        for rows in ([], [1], [2, 1], [1, 2, 3]):
            before = list(rows)
            in_order(rows).append(9)
            self.assertEqual(rows, before)


if __name__ == "__main__":
    unittest.main()
