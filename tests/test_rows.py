"""Points 6, 7 and 8 and the interface of onecable/rows.py."""

import unittest
from itertools import product

from onecable.errors import BadRow, CableError
from onecable.rows import Row


class RowTest(unittest.TestCase):
    def refuses(self, place, call, *arguments):
        with self.assertRaises(BadRow) as caught:
            call(*arguments)
        self.assertEqual(caught.exception.place, place)
        self.assertIsInstance(caught.exception, CableError)


class Making(RowTest):
    def test_interface(self):
        self.assertEqual(Row.__module__, "onecable.rows")
        for name in ("parse", "__str__", "__len__", "__iter__", "__getitem__", "__add__", "__mul__",
                     "__rmul__", "__eq__", "__lt__", "MOST"):
            self.assertIn(name, vars(Row))
        self.assertIsInstance(vars(Row)["parse"], classmethod)
        self.assertEqual([Row.MOST, Row([]).MOST], [2000, 2000])

    def test_lists_and_tuples(self):
        self.assertEqual(list(Row([0, 1, 2, 3, 4])), [0, 1, 2, 3, 4])
        self.assertEqual(list(Row((4, 3, 2, 1, 0))), [4, 3, 2, 1, 0])
        self.assertEqual(list(Row(letters=[1])), [1])

    def test_none_and_most(self):
        self.assertEqual([len(Row([])), len(Row(()))], [0, 0])
        self.assertEqual(len(Row([4] * 2000)), 2000)
        self.assertEqual(len(Row((0,) * 1999)), 1999)

    def test_one_too_many(self):
        self.refuses(2000, Row, [0] * 2001)
        self.refuses(2000, Row, (1,) * 2500)
        self.refuses(2000, Row, [0] * 2000 + [9])

    def test_wrong_letters(self):
        self.refuses(0, Row, [5])
        self.refuses(0, Row, [-1])
        self.refuses(2, Row, (0, 4, 5, -1))
        self.refuses(1, Row, [1, -1, 1])
        self.refuses(1, Row, [1, 10 ** 30, 7])
        self.refuses(1999, Row, [1] * 1999 + [5])

    def test_the_least_wrong_index_counts(self):
        self.refuses(7, Row, [0] * 7 + [5] + [0] * 3000)
        self.refuses(1999, Row, [0] * 1999 + [5] * 3000)

    def test_argument_is_copied(self):
        letters = [1, 2, 3]
        row = Row(letters)
        self.assertEqual(letters, [1, 2, 3])
        letters[0] = 9
        letters.append(4)
        self.assertEqual(list(row), [1, 2, 3])

    def test_a_refused_argument_stays_as_it_is(self):
        letters = [1, 9, 2]
        self.refuses(1, Row, letters)
        self.assertEqual(letters, [1, 9, 2])


class Items(RowTest):
    def test_length_and_items(self):
        row = Row([3, 0, 4])
        self.assertEqual(len(row), 3)
        self.assertEqual([row[0], row[1], row[2]], [3, 0, 4])
        self.assertEqual([letter for letter in row], [3, 0, 4])
        self.assertEqual([letter for letter in row], [3, 0, 4])

    def test_outside(self):
        row = Row([3, 0, 4])
        for index in (-1, -3, -4, 3, 4, 2000, 10 ** 20, -10 ** 20):
            self.refuses(index, row.__getitem__, index)
            self.refuses(index, lambda: row[index])
        self.refuses(0, lambda: Row([])[0])
        self.refuses(-1, lambda: Row([])[-1])
        self.assertEqual(list(row), [3, 0, 4])

    def test_two_loops_at_once(self):
        row = Row([1, 2])
        self.assertEqual([(a, b) for a in row for b in row], [(1, 1), (1, 2), (2, 1), (2, 2)])

    def test_lists_of_it_are_new(self):
        row = Row([1, 2])
        list(row).append(3)
        self.assertEqual(list(row), [1, 2])


class SumsAndProducts(RowTest):
    def test_sum(self):
        first, second = Row([1, 2]), Row([0, 3, 4])
        both = first + second
        self.assertIsInstance(both, Row)
        self.assertEqual(list(both), [1, 2, 0, 3, 4])
        self.assertEqual([list(first), list(second)], [[1, 2], [0, 3, 4]])
        self.assertEqual(list(Row([]) + first), [1, 2])
        self.assertEqual(list(first + Row([])), [1, 2])

    def test_sum_up_to_the_most(self):
        self.assertEqual(list(Row([1] * 1200) + Row([2] * 800)), [1] * 1200 + [2] * 800)
        self.refuses(2000, lambda: Row([1] * 1200) + Row([2] * 801))
        self.refuses(2000, lambda: Row([1] * 2000) + Row([2] * 2000))
        self.refuses(2000, lambda: Row([1] * 2000) + Row([0]))

    def test_product(self):
        row = Row([1, 0, 2])
        for product_of in (row * 3, 3 * row):
            self.assertIsInstance(product_of, Row)
            self.assertEqual(list(product_of), [1, 0, 2] * 3)
        self.assertEqual([list(row * 1), list(1 * row)], [[1, 0, 2], [1, 0, 2]])
        self.assertEqual([list(row * 0), list(0 * row)], [[], []])
        self.assertEqual([list(Row([]) * 2000), list(2000 * Row([]))], [[], []])
        self.assertEqual(list(row), [1, 0, 2])

    def test_product_up_to_the_most(self):
        self.assertEqual(list(Row([3]) * 2000), [3] * 2000)
        self.assertEqual(list(2000 * Row([3])), [3] * 2000)
        self.assertEqual(len(Row([1, 2]) * 1000), 2000)
        self.assertEqual(len(Row([1] * 2000) * 1), 2000)
        self.assertEqual(len(0 * Row([1] * 2000)), 0)

    def test_product_beyond_the_most(self):
        for row, times in ((Row([1, 2]), 1001), (Row([1, 2, 3]), 667), (Row([1] * 2000), 2), (Row([0] * 2000), 2000)):
            self.refuses(2000, lambda: row * times)
            self.refuses(2000, lambda: times * row)


class Comparing(RowTest):
    def test_equal(self):
        self.assertIs(Row([1, 2]) == Row((1, 2)), True)
        self.assertIs(Row([]) == Row(()), True)
        self.assertIs(Row([1, 2]) == Row([2, 1]), False)
        self.assertIs(Row([1]) == Row([1, 0]), False)
        self.assertIs(Row([0]) == Row([]), False)
        self.assertIs(Row([1, 2]) != Row([1, 2]), False)
        self.assertIs(Row([1, 2]) != Row([1, 3]), True)

    def test_fewer_letters_are_less(self):
        self.assertIs(Row([]) < Row([0]), True)
        self.assertIs(Row([4]) < Row([0, 0]), True)
        self.assertIs(Row([0, 0]) < Row([4]), False)
        self.assertIs(Row([0, 0]) < Row([0]), False)

    def test_the_first_difference_counts(self):
        self.assertIs(Row([1, 0, 4]) < Row([1, 1, 0]), True)
        self.assertIs(Row([1, 1, 0]) < Row([1, 0, 4]), False)
        self.assertIs(Row([1, 2]) < Row([1, 2]), False)
        self.assertIs(Row([]) < Row([]), False)

    def test_order_of_many(self):
        rows = [list(letters) for many in range(4) for letters in product(range(3), repeat=many)]
        for a, first in enumerate(rows):
            for b, second in enumerate(rows):
                self.assertIs(Row(first) < Row(second), a < b)
                self.assertIs(Row(first) == Row(second), a == b)

    def test_the_least_of_several(self):
        rows = [Row([1, 1]), Row([4]), Row([2]), Row([0, 0, 0])]
        self.assertEqual(list(min(rows)), [2])


class WrittenForm(RowTest):
    def test_forms(self):
        self.assertEqual(str(Row([])), "empty")
        self.assertEqual(str(Row([0])), "0")
        self.assertEqual(str(Row([1, 0, 4])), "1 0 4")

    def test_there_and_back(self):
        for letters in ([], [0], [4, 3, 2, 1, 0], [1, 1], [2] * 2000):
            row = Row.parse(str(Row(letters)))
            self.assertIsInstance(row, Row)
            self.assertEqual(list(row), letters)

    def test_texts(self):
        self.assertEqual(list(Row.parse("empty")), [])
        self.assertEqual(list(Row.parse("3")), [3])
        self.assertEqual(list(Row.parse(text="0 1 2 3 4")), [0, 1, 2, 3, 4])

    def test_spaces(self):
        self.refuses(0, Row.parse, "")
        self.refuses(0, Row.parse, " ")
        self.refuses(0, Row.parse, " 1 2")
        self.refuses(2, Row.parse, "1 2 ")
        self.refuses(1, Row.parse, "1  2")
        self.refuses(3, Row.parse, "1 2 3  4  0")

    def test_wrong_parts(self):
        for part in ("5", "9", "-1", "10", "01", "00", "1.0", "a", "+1", "1,", "empty", "x0", "1\n", "1\t"):
            with self.subTest(part):
                self.refuses(0, Row.parse, part + " 1")
                self.refuses(2, Row.parse, "0 4 " + part)
        self.refuses(0, Row.parse, "Empty")
        self.refuses(0, Row.parse, "empty ")
        self.refuses(1, Row.parse, "1 5 7 1")

    def test_a_part_too_many(self):
        self.refuses(2000, Row.parse, " ".join(["1"] * 2001))
        self.refuses(2000, Row.parse, " ".join(["1"] * 2000 + ["9"]))
        self.refuses(2000, Row.parse, " ".join(["1"] * 2000) + " ")
        self.refuses(3, Row.parse, " ".join(["1"] * 3 + ["9"] + ["1"] * 3000))
        self.assertEqual(len(Row.parse(" ".join(["1"] * 2000))), 2000)


if __name__ == "__main__":
    unittest.main()
