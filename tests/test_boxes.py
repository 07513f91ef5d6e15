import unittest

from neverboxes.boxes import Box, Stock
from neverboxes.tables import Table
from tests.samples import all_but, any_values, not_table, or_stock, or_table, raised, raised_is, yes_table


def named(name, table=None):
    return Box(name, table or yes_table())


class BoxTest(unittest.TestCase):
    def test_attributes_and_repr(self):
        box = Box(table=or_table(), name="or")
        self.assertEqual([box.name, box.table, repr(box)], ["or", or_table(), "Box(or, 2 inputs)"])
        self.assertEqual(repr(Box("no", not_table())), "Box(no, 1 inputs)")

    def test_equal(self):
        self.assertEqual(Box("or", or_table()), Box("or", or_table()))
        self.assertNotEqual(Box("or", or_table()), Box("and", or_table()))
        self.assertNotEqual(Box("or", or_table()), Box("or", yes_table()))
        self.assertNotEqual(Box("or", or_table()), Box("or", or_table(3)))
        for value in all_but([Box("or", or_table())]):
            self.assertIs(Box("or", or_table()) == value, False)
            self.assertIs(value == Box("or", or_table()), False)

    def test_errors(self):
        for value in all_but(["or", "input"]):
            raised_is(self, raised(Box, value, 5), ("InvalidName", value))
        for name in ("abcdefghi", "a b", "A", "a1", "\n", "or\n"):
            self.assertEqual(raised(Box, name, or_table()), ("InvalidName", name))
        for value in all_but([or_table()]):
            self.assertEqual(raised(Box, "or", value), ("InvalidTable",), repr(value))


class StockTest(unittest.TestCase):
    def test_told(self):
        stock = or_stock()
        self.assertEqual(stock.boxes(), [Box("or", or_table()), Box("yes", yes_table())])
        self.assertEqual(stock.names(), ["or", "yes"])
        self.assertEqual([stock.signs, len(stock), bool(stock)], [2, 2, True])
        self.assertEqual(repr(stock), "Stock(2 boxes, 2 signs)")
        self.assertEqual(stock.box("yes"), Box("yes", yes_table()))
        self.assertEqual(stock.box(name="or").table, or_table())

    def test_without_boxes(self):
        for signs, stock in ((2, Stock()), (2, Stock(signs=2)), (3, Stock(signs=3))):
            self.assertEqual([stock.signs, stock.boxes(), stock.names(), len(stock)], [signs, [], [], 0])
            self.assertIs(bool(stock), True)
            self.assertEqual(repr(stock), f"Stock(0 boxes, {signs} signs)")

    def test_boxes_stand_in_the_order_in_which_they_are_passed(self):
        names = ["e", "a", "d", "b", "c"]
        self.assertEqual(Stock(*[named(name) for name in names]).names(), names)

    def test_equal(self):
        one, other = named("a"), named("b")
        self.assertEqual(Stock(one, other), Stock(named("a"), named("b")))
        self.assertNotEqual(Stock(one, other), Stock(other, one))
        self.assertNotEqual(Stock(one), Stock(one, other))
        self.assertNotEqual(Stock(), Stock(signs=3))
        for value in all_but([Stock()]):
            self.assertIs(Stock() == value, False)
            self.assertIs(value == Stock(), False)

    def test_signs(self):
        for value in all_but([2, 3]):
            raised_is(self, raised(Stock, 5, signs=value), ("InvalidSigns", value))

    def test_wrong_boxes(self):
        for value in all_but([Box("or", or_table())]):
            raised_is(self, raised(Stock, named("a"), value, value), ("InvalidBox", 1))
        self.assertEqual(raised(Stock, Box("or", or_table(3))), ("InvalidBox", 0))
        self.assertEqual(raised(Stock, named("a"), signs=3), ("InvalidBox", 0))
        self.assertEqual(raised(Stock, named("a", yes_table(3)), named("b"), signs=3), ("InvalidBox", 1))

    def test_many_and_double(self):
        boxes = [named(name) for name in "abcdef"]
        self.assertEqual(len(Stock(*boxes[:5])), 5)
        self.assertEqual(raised(Stock, *boxes), ("TooMany", "boxes", 6))
        self.assertEqual(raised(Stock, *boxes, *boxes), ("TooMany", "boxes", 12))
        self.assertEqual(raised(Stock, *boxes[:3], boxes[2], boxes[0]), ("DuplicateName", "c"))
        self.assertEqual(raised(Stock, named("a"), Box("a", or_table())), ("DuplicateName", "a"))

    def test_order_of_errors(self):
        boxes = [named("a")] * 6
        self.assertEqual(raised(Stock, *boxes, 5, signs=4), ("InvalidSigns", 4))
        self.assertEqual(raised(Stock, *boxes, 5), ("InvalidBox", 6))
        self.assertEqual(raised(Stock, *boxes), ("TooMany", "boxes", 6))

    def test_unknown_names(self):
        for value in all_but(["or"]):
            told = raised(or_stock().box, value)
            raised_is(self, told, ("UnknownName", value))
            raised_is(self, raised(or_stock().without, value), ("UnknownName", value))

    def test_in(self):
        self.assertIs("or" in or_stock(), True)
        self.assertIs("yes" in or_stock(), True)
        for value in all_but(["or"]):
            self.assertIs(value in or_stock(), False, repr(value))
            self.assertIs(value in Stock(), False)
        self.assertIs("or" in Stock(), False)

    def test_with_box(self):
        stock = Stock(named("a"))
        self.assertEqual(stock.with_box(box=named("b")), Stock(named("a"), named("b")))
        self.assertEqual(stock, Stock(named("a")))
        self.assertEqual(Stock(signs=3).with_box(named("a", yes_table(3))).signs, 3)
        for value in all_but([Box("or", or_table())]):
            raised_is(self, raised(stock.with_box, value), ("InvalidBox", 1))
        self.assertEqual(raised(stock.with_box, named("b", yes_table(3))), ("InvalidBox", 1))
        self.assertEqual(raised(stock.with_box, Box("a", or_table())), ("DuplicateName", "a"))
        full = Stock(*[named(name) for name in "abcde"])
        self.assertEqual(raised(full.with_box, named("a")), ("TooMany", "boxes", 6))
        self.assertEqual(raised(full.with_box, 5), ("InvalidBox", 5))

    def test_without(self):
        stock = Stock(named("a"), named("b"), named("c"))
        self.assertEqual(stock.without(name="b"), Stock(named("a"), named("c")))
        self.assertEqual(Stock(named("a", yes_table(3)), signs=3).without("a"), Stock(signs=3))
        self.assertEqual(stock.names(), ["a", "b", "c"])

    def test_only(self):
        stock = Stock(named("a"), named("b"), named("c"))
        self.assertEqual(stock.only(["c", "a"]), Stock(named("a"), named("c")))
        self.assertEqual(stock.only(names=("b", "b")), Stock(named("b")))
        self.assertEqual(stock.only([]), Stock())
        self.assertEqual(Stock(signs=3).only([]), Stock(signs=3))
        for value in any_values():
            raised_is(self, raised(stock.only, ["a", value, "x"]), ("UnknownName", value))

    def test_told_lists_are_new(self):
        boxes = [named("a"), named("b")]
        stock = Stock(*boxes)
        boxes.clear()
        stock.boxes().clear()
        stock.names().append("c")
        names = ["b"]
        stock.only(names)
        self.assertEqual([stock, names], [Stock(named("a"), named("b")), ["b"]])
        self.assertEqual(stock.names(), ["a", "b"])

    def test_a_table_that_hangs_may_be_in_a_box(self):
        self.assertEqual(Stock(Box("never", Table(0, []))).box("never").table.least, [])
