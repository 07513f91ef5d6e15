import unittest

from neverboxes.boxes import Stock
from neverboxes.lines import is_line, line_text, line_value, references
from tests.samples import any_values, or_stock, rows_of


class IsLineTest(unittest.TestCase):
    def check(self, expected, lines, at=3, inputs=2, stock=None):
        for line in lines:
            self.assertIs(is_line(line, at, inputs, stock or or_stock()), expected, repr(line))

    def test_lines(self):
        self.check(True, [("input", 0), ("input", 1), ("sign", 0), ("sign", 1), ("never",), ("ask", 0, 1, 2),
                          ("ask", 2, 2, 2), ("box", "or", 0, 2), ("box", "or", 1, 1), ("box", "yes")])

    def test_three_signs(self):
        stock = or_stock(3)
        self.check(True, [("sign", 2), ("ask", 0, 1, 2, 0), ("box", "or", 0, 1)], stock=stock)
        self.check(False, [("sign", 3), ("ask", 0, 1, 2), ("ask", 0, 1, 2, 0, 1), ("ask", 0, 1, 2, 3)], stock=stock)

    def test_numbers_out_of_bounds(self):
        self.check(False, [("input", 2), ("input", -1), ("sign", 2), ("sign", -1), ("ask", 3, 0, 0), ("ask", 0, 0, 3),
                           ("ask", 0, -1, 0), ("box", "or", 3, 0), ("box", "or", 0, -1)])
        self.check(False, [("input", 0)], inputs=0)
        self.check(False, [("ask", 0, 0, 0), ("box", "or", 0, 0)], at=0)
        self.check(True, [("input", 0), ("sign", 0), ("never",), ("box", "yes")], at=0)
        self.check(True, [("input", 7)], inputs=8)
        self.check(True, [("ask", 99, 5, 98)], at=100)

    def test_other_lengths(self):
        self.check(False, [(), ("input",), ("input", 0, 0), ("sign",), ("sign", 0, 0), ("never", 0), ("ask",),
                           ("ask", 0), ("ask", 0, 1), ("ask", 0, 1, 2, 0), ("box",), ("box", "or"), ("box", "or", 0),
                           ("box", "or", 0, 1, 2), ("box", "yes", 0)])

    def test_other_words_and_names(self):
        self.check(False, [("call", "or", 0, 1), ("Input", 0), ("", 0), ("box", "and", 0, 1), ("box", 0, 1),
                           ("or", 0, 1), ("box", ("or",), 0, 1), ("box", ["or"], 0, 1), ("box", None, 0, 1)])
        self.check(False, [("box", "or", 0, 1)], stock=Stock())

    def test_booleans_and_lists(self):
        self.check(False, [("input", True), ("input", False), ("sign", True), ("ask", 0, True, 1), ("ask", False, 0, 1),
                           ("box", "or", 0, True), ("sign", None), ("ask", None, 0, 0), ["input", 0], ["never"],
                           ("input", [0]), ("input", "0"), ("ask", (0, 1, 2)), ("box", "or", (0, 1))])

    def test_any_values(self):
        self.check(False, any_values())
        self.check(False, [(value,) for value in any_values()])
        self.check(False, [(value, 0) for value in any_values() if value != "input"])
        self.check(False, [("box", value, 0, 1) for value in any_values() if value != "or"])
        for value in any_values():
            self.check(type(value) is int and value in (0, 1), [("input", value), ("sign", value)])
            self.check(type(value) is int and 0 <= value <= 2, [("ask", 0, value, 0), ("box", "or", value, 0)])

    def test_by_name(self):
        self.assertIs(is_line(stock=Stock(), inputs=1, at=0, value=("input", 0)), True)


class LineTest(unittest.TestCase):
    def test_references(self):
        self.assertEqual(references(("input", 3)), [])
        self.assertEqual(references(("sign", 1)), [])
        self.assertEqual(references(("never",)), [])
        self.assertEqual(references(("ask", 5, 3, 4)), [5, 3, 4])
        self.assertEqual(references(("ask", 5, 3, 4, 3)), [5, 3, 4, 3])
        self.assertEqual(references(("box", "or", 2, 2)), [2, 2])
        self.assertEqual(references(("box", "yes")), [])
        self.assertEqual(references(line=("call", "f", 1, 0)), [1, 0])
        self.assertEqual(references(("call", "f")), [])

    def test_line_text(self):
        self.assertEqual(line_text(("box", "or", 0, 1)), "box or 0 1")
        self.assertEqual(line_text(("box", "yes")), "box yes")
        self.assertEqual(line_text(("never",)), "never")
        self.assertEqual(line_text(("input", 7)), "input 7")
        self.assertEqual(line_text(line=("ask", 0, 10, 399)), "ask 0 10 399")

    def test_line_value(self):
        stock = or_stock()
        self.assertEqual([line_value(("input", 1), row, [], stock) for row in ((0, 1), (1, None))], [1, None])
        self.assertEqual(line_value(("sign", 0), (), [], stock), 0)
        self.assertIsNone(line_value(("never",), (0,), [1], stock))
        for values in rows_of(3, 2):
            expected = None if values[2] is None else values[values[2]]
            self.assertEqual(line_value(("ask", 2, 0, 1), (), list(values), stock), expected)
            expected = stock.box("or").table((values[2], values[0]))
            self.assertEqual(line_value(("box", "or", 2, 0), (), list(values), stock), expected)
        self.assertEqual(line_value(("box", "yes"), (), [], stock), 1)
        self.assertEqual(line_value(stock=or_stock(3), values=[2, None, 0, 1], row=(), line=("ask", 0, 1, 2, 3)), 1)

    def test_a_test_that_hangs_hangs_also_where_its_branches_are_alike(self):
        self.assertIsNone(line_value(("ask", 0, 1, 1), (), [None, 1], or_stock()))

    def test_values_of_cells_may_stand_behind(self):
        self.assertEqual(line_value(("ask", 0, 3, 2), (), [1, None, 0, 1], or_stock()), 0)

    def test_arguments_stay_and_told_lists_are_new(self):
        line, values = ("ask", 0, 1, 1), [0, 1]
        references(line).clear()
        line_value(line, (), values, or_stock())
        self.assertEqual([references(line), values], [[0, 1, 1], [0, 1]])
