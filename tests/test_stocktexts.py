import random
import unittest

from neverboxes.boxes import Box, Stock
from neverboxes.stocktexts import read_stock, stock_text
from neverboxes.tables import Table
from tests.samples import any_values, or_stock, or_table, raised, raised_is, some_table

OR_TEXT = "stock 2\nbox or 2\ncase ~1 1\ncase 00 0\ncase 1~ 1\nbox yes 0\ncase . 1\nend\n"


class WrittenTest(unittest.TestCase):
    def test_texts(self):
        self.assertEqual(stock_text(or_stock()), OR_TEXT)
        self.assertEqual(stock_text(Stock()), "stock 2\nend\n")
        self.assertEqual(stock_text(stock=Stock(signs=3)), "stock 3\nend\n")
        never = Stock(Box("never", Table(4, [], signs=3)), signs=3)
        self.assertEqual(stock_text(never), "stock 3\nbox never 4\nend\n")

    def test_cases_stand_in_row_order(self):
        stock = Stock(Box("a", Table(1, [((2,), 0), ((0,), 2), ((1,), 1)], signs=3)), signs=3)
        self.assertEqual(stock_text(stock), "stock 3\nbox a 1\ncase 0 2\ncase 1 1\ncase 2 0\nend\n")

    def test_texts_are_read_back(self):
        chance = random.Random(2)
        for signs in (2, 3):
            for many in range(6):
                boxes = [Box(name, some_table(chance, chance.randrange(4), signs)) for name in "cadbe"[:many]]
                stock = Stock(*boxes, signs=signs)
                self.assertEqual(read_stock(stock_text(stock)), stock)
        for stock in (Stock(Box("a", Table(5, []))), Stock(Box("a", Table(4, [], signs=3)), signs=3)):
            self.assertEqual(read_stock(text=stock_text(stock)), stock)


class ReadTest(unittest.TestCase):
    def wrong(self, text, line, why):
        raised_is(self, raised(read_stock, text), ("InvalidText", line, why))

    def test_any_cases_in_any_order(self):
        text = "stock 2\nbox or 2\ncase 11 1\ncase 1~ 1\ncase 00 0\ncase ~1 1\ncase 00 0\ncase 1~ 1\nend\n"
        self.assertEqual(read_stock(text), Stock(Box("or", or_table())))
        self.assertEqual(stock_text(read_stock(text)), "stock 2\nbox or 2\ncase ~1 1\ncase 00 0\ncase 1~ 1\nend\n")

    def test_no_string(self):
        for value in any_values():
            if not isinstance(value, str):
                self.wrong(value, 0, "form")
        self.wrong([OR_TEXT], 0, "form")

    def test_head(self):
        for head in ("", "stock", "stock 1", "stock 4", "stock 02", "stock  2", " stock 2", "stock 2 ", "Stock 2",
                     "stock 2 2", "end", "box or 2", "stock ~", "stock 22", "case . 1"):
            self.wrong(head + "\nend\n", 0, "form")
        self.wrong("\nstock 2\nend\n", 0, "form")

    def test_box_lines(self):
        for line in ("box", "box or", "box or 2 2", "box or x", "box or -1", "box or 6", "box or 02", "box or  2",
                     "box Or 2", "box abcdefghi 2", "box  2", "box or ", "box or 2 ", " box or 2", "box or 10",
                     "box 2 or", "box or ~"):
            self.wrong("stock 2\n" + line + "\nend\n", 1, "form")
        self.wrong("stock 3\nbox or 5\nend\n", 1, "form")
        self.assertEqual(read_stock("stock 2\nbox or 5\nend\n").box("or").table.inputs, 5)
        self.assertEqual(read_stock("stock 3\nbox or 4\nend\n").box("or").table.inputs, 4)

    def test_case_lines(self):
        for line in ("case", "case 0", "case 0 1 1", "case 00 1", "case . 1", "case 2 1", "case 0 2", "case 0 ~",
                     "case 0 -1", "case 0 01", "case  1", "case 0  1", "case 0 1 ", "case 0 ", "case a 1",
                     "Case 0 1", "case (0,) 1"):
            self.wrong("stock 2\nbox a 1\n" + line + "\nend\n", 2, "form")
        self.wrong("stock 2\nbox a 0\ncase ~ 1\nend\n", 2, "form")
        self.wrong("stock 3\nbox a 1\ncase 3 1\nend\n", 2, "form")
        self.wrong("stock 3\nbox a 1\ncase 2 3\nend\n", 2, "form")
        self.assertEqual(read_stock("stock 3\nbox a 1\ncase 2 2\nend\n").box("a").table.least, [((2,), 2)])

    def test_a_case_stands_behind_a_box(self):
        self.wrong("stock 2\ncase . 1\nbox a 0\nend\n", 1, "form")

    def test_a_case_has_the_inputs_of_its_own_box(self):
        self.wrong("stock 2\nbox a 1\nbox b 2\ncase 0 1\nend\n", 3, "form")

    def test_other_lines(self):
        for line in ("", " ", "END", "end ", " end", "stock 2", "end end", "row 0", "box\tor 2"):
            self.wrong("stock 2\nbox a 0\n" + line + "\nend\n", 2, "form")

    def test_many(self):
        boxes = "".join(f"box {name} 0\n" for name in "abcde")
        self.assertEqual(len(read_stock("stock 2\n" + boxes + "end\n")), 5)
        self.wrong("stock 2\n" + boxes + "box f 0\nend\n", 6, "many")
        self.wrong("stock 2\n" + boxes + "box a 0\nend\n", 6, "many")
        self.wrong("stock 2\n" + boxes + "box f 6\nend\n", 6, "form")
        self.wrong("stock 2\n" + boxes + "box f 0", 6, "form")

    def test_double(self):
        self.wrong("stock 2\nbox a 0\nbox b 0\nbox a 1\nend\n", 3, "double")
        self.wrong("stock 2\nbox a 0\nbox a 9\nend\n", 2, "form")
        self.wrong("stock 2\nbox a 0\nbox a 0", 2, "form")

    def test_conflict(self):
        self.wrong("stock 2\nbox a 2\ncase 0~ 1\ncase 1~ 0\ncase ~0 0\ncase ~0 1\nend\n", 4, "conflict")
        self.wrong("stock 2\nbox a 0\ncase . 1\ncase . 0\nend\n", 3, "conflict")
        self.wrong("stock 2\nbox a 0\ncase . 1\ncase . 2\nend\n", 3, "form")
        self.wrong("stock 2\nbox a 0\ncase . 1\ncase . 0", 3, "form")
        self.assertEqual(len(read_stock("stock 2\nbox a 0\ncase . 1\nbox b 0\ncase . 0\nend\n")), 2)

    def test_first_wrong_line_counts(self):
        self.wrong("stock 2\nbox a 0\nbox a 0\nwrong\n", 2, "double")
        self.wrong("stock 2\nwrong\nbox a 0\nbox a 0\n", 1, "form")

    def test_missing_at_each_line(self):
        lines = OR_TEXT.split("\n")[:-1]
        for many in range(len(lines)):
            self.wrong("".join(line + "\n" for line in lines[:many]), many, "missing")

    def test_a_line_that_lacks_its_line_feed(self):
        lines = OR_TEXT.split("\n")[:-1]
        for many in range(1, len(lines) + 1):
            self.wrong("\n".join(lines[:many]), many - 1, "form")

    def test_a_line_behind_the_last_one(self):
        for more in ("x", "\n", "end\n", "end", "box b 0\n", " ", "stock 2\nend\n"):
            self.wrong("stock 2\nend\n" + more, 2, "form")
