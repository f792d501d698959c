"""Point 14 and the interface of onecable/yardtext.py."""

import unittest

from onecable.errors import BadLine, CableError
from onecable.kinds import Kind
from onecable.yards import Yard
from onecable.yardtext import read_yard, yard_text
from tests.draws import Draws

YARD = Yard(2, [Kind("van", 4, 2), Kind("bus", 3, 3)], [("early", ["van", "bus", "van"]), ("late", ["bus"])])
LINES = ["cable 2", "kind van stay 4 need 2", "kind bus stay 3 need 3", "batch early van bus van", "batch late bus"]


def drawn_yard(draws):
    names = draws.some_of(["a", "van", "bus", "kind", "stay", "batch", "cable", "abcdefgh"], draws.number(1, 6))
    kinds = []
    for name in names:
        stay = draws.number(1, 4)
        kinds.append(Kind(name, stay, draws.number(1, stay)))
    batches = draws.some_of(["a", "noon", "van", "cable", "need", "zzzzzzzz"], draws.number(1, 4))
    menu = [(name, [draws.one_of(names) for _ in range(draws.number(1, 3))]) for name in batches]
    return Yard(draws.number(1, 3), kinds, menu)


class TextTest(unittest.TestCase):
    def refuses(self, line, text):
        with self.assertRaises(BadLine) as caught:
            read_yard(text)
        self.assertEqual(caught.exception.line, line)
        self.assertIsInstance(caught.exception, CableError)

    def refuses_changed(self, line, number, text):
        """The line with the number is replaced by the text, and the line `line` must be refused."""
        lines = list(LINES)
        lines[number - 1] = text
        self.refuses(line, "\n".join(lines))


class Right(TextTest):
    def test_interface(self):
        self.assertEqual([yard_text.__module__, read_yard.__module__], ["onecable.yardtext"] * 2)

    def test_written(self):
        self.assertEqual(yard_text(YARD), "\n".join(LINES))
        self.assertEqual(yard_text(yard=YARD), "\n".join(LINES))
        self.assertEqual(yard_text(Yard(1, [Kind("p", 1, 1)], [("a", ("p",))])),
                         "cable 1\nkind p stay 1 need 1\nbatch a p")

    def test_read(self):
        self.assertEqual(read_yard("\n".join(LINES)), YARD)
        self.assertIsInstance(read_yard(text="\n".join(LINES)), Yard)

    def test_there_and_back(self):
        draws = Draws(14)
        for _ in range(200):
            yard = drawn_yard(draws)
            self.assertEqual(read_yard(yard_text(yard)), yard)
            self.assertEqual(yard_text(read_yard(yard_text(yard))), yard_text(yard))


class WrongLines(TextTest):
    def test_first_line(self):
        for text in ("", "cable", "cable ", "cable 0", "cable 10", "cable 01", "cable a", "cable -1", " cable 2",
                     "cable 2 ", "cable  2", "cable 2 2", "Cable 2", "cables 2", "2", "2 cable", "cable two",
                     "kind van stay 4 need 2", "batch late bus", "cable +2"):
            with self.subTest(text):
                self.refuses_changed(1, 1, text)
        self.refuses(1, "")
        self.refuses(1, "\n")
        self.refuses(1, "\n" + "\n".join(LINES))

    def test_empty_lines(self):
        for number in range(2, 7):
            self.refuses(number, "\n".join(LINES[:number - 1] + [""] + LINES[number - 1:]))
        self.refuses(6, "\n".join(LINES) + "\n")
        self.refuses(2, "cable 1\n")

    def test_spaces(self):
        for number, line in enumerate(LINES, start=1):
            self.refuses_changed(number, number, " " + line)
            self.refuses_changed(number, number, line + " ")
            words = line.split(" ")
            for place in range(1, len(words)):
                text = " ".join(words[:place]) + "  " + " ".join(words[place:])
                self.refuses_changed(number, number, text)
        self.refuses_changed(4, 4, " ")

    def test_kind_lines(self):
        for text in ("kind van stay 0 need 2", "kind van stay 4 need 0", "kind van stay 04 need 2",
                     "kind van stay 4 need 02", "kind van stay 10 need 2", "kind van stay 4 need 12",
                     "kind van stay a need 2", "kind van stay 4 need -1", "kind van stay 4 need",
                     "kind van stay 4", "kind van need 2 stay 4", "kind stay 4 need 2", "kind van stay 4 need 2 2",
                     "kind van 4 2", "kind", "Kind van stay 4 need 2", "kind Van stay 4 need 2",
                     "kind van1 stay 4 need 2", "kind abcdefghi stay 4 need 2", "kind van Stay 4 need 2",
                     "kind van stay 4 want 2", "kinds van stay 4 need 2", "kind  stay 4 need 2"):
            with self.subTest(text):
                self.refuses_changed(2, 2, text)
                self.refuses_changed(3, 3, text)

    def test_kinds_that_break_point_12(self):
        for text in ("kind van stay 5 need 2", "kind van stay 9 need 9", "kind van stay 4 need 5",
                     "kind van stay 1 need 2", "kind van stay 3 need 9"):
            with self.subTest(text):
                self.refuses_changed(2, 2, text)
                self.refuses_changed(3, 3, text)

    def test_batch_lines(self):
        for text in ("batch", "batch early", "batch Early van", "batch early Van", "batch early van bus1",
                     "batch abcdefghi van", "batch early abcdefghi", "batches early van", "early van", "van",
                     "Batch early van", "batch early van,bus", "batch early 1", "batch 1 van", "cable 2", "cable"):
            with self.subTest(text):
                self.refuses_changed(4, 4, text)
                self.refuses_changed(5, 5, text)

    def test_a_kind_behind_a_batch(self):
        self.refuses_changed(5, 5, "kind car stay 1 need 1")
        self.refuses_changed(3, 2, "batch noon bus")
        self.refuses(6, "\n".join(LINES + ["kind car stay 1 need 1"]))

    def test_the_first_wrong_line_counts(self):
        self.refuses(1, "cable 0\nkind\nbatch")
        self.refuses(2, "cable 9\nkind\nbatch")
        self.refuses(3, "cable 1\nkind p stay 1 need 1\nbatch\nkind")
        self.refuses(3, "cable 9\nkind p stay 1 need 1\nbatch a")
        self.refuses(3, "cable 9\nkind p stay 1 need 1\nbatch A p")
        self.refuses(3, "cable 1\nkind p stay 1 need 1\nkind P stay 1 need 1\nbatch")
        self.refuses(4, "cable 1\nkind p stay 1 need 1\nkind p stay 1 need 1\nbatch a P")
        self.refuses(3, "cable 1\nkind p stay 1 need 1\nbatch a1 p\nbatch")


class WrongYards(TextTest):
    def test_width(self):
        for width in range(4, 10):
            self.refuses_changed(1, 1, f"cable {width}")
        self.refuses(1, "cable 4\nkind p stay 1 need 1\nkind p stay 1 need 1\nbatch a p")
        self.refuses(1, "cable 4")

    def test_lines_come_before_the_width(self):
        self.refuses(3, "cable 4\nkind p stay 1 need 1\nbatch a")
        self.refuses(2, "cable 9\n")

    def test_no_kinds(self):
        self.refuses(2, "cable 1")
        self.refuses(2, "cable 1\nbatch a p")
        self.refuses(2, "cable 1\nbatch a p\nbatch a p")

    def test_kinds(self):
        self.refuses_changed(3, 3, "kind van stay 3 need 3")
        kinds = [f"kind {name} stay 1 need 1" for name in "abcdefgh"]
        self.refuses(8, "\n".join(["cable 1", *kinds[:7], "batch x a"]))
        self.refuses(8, "\n".join(["cable 1", *kinds, "batch x a"]))
        self.refuses(4, "\n".join(["cable 1", *kinds[:2], kinds[0], *kinds[2:], "batch x y"]))
        self.assertEqual(len(read_yard("\n".join(["cable 1", *kinds[:6], "batch x a"])).kinds), 6)

    def test_no_batches(self):
        self.refuses(3, "cable 1\nkind p stay 1 need 1")
        self.refuses(4, "cable 1\nkind p stay 1 need 1\nkind q stay 1 need 1")

    def test_menu(self):
        self.refuses_changed(5, 5, "batch early bus")
        self.refuses_changed(4, 4, "batch early van bus van bus")
        self.refuses_changed(5, 5, "batch late bus bus bus bus")
        self.refuses_changed(4, 4, "batch early van car")
        self.refuses_changed(5, 5, "batch late early")
        more = [f"batch {name} van" for name in "abc"]
        self.refuses(8, "\n".join(LINES + more))
        self.refuses(7, "\n".join(LINES + ["batch a van", "batch early van", "batch b van"]))
        self.assertEqual(read_yard("\n".join(LINES + more[:2])).letter_count, 5)

    def test_kinds_come_before_the_menu(self):
        self.refuses(3, "cable 1\nkind p stay 1 need 1\nkind p stay 1 need 1\nbatch a x")


if __name__ == "__main__":
    unittest.main()
