import random
import unittest

from neverboxes.boxes import Box, Stock
from neverboxes.onebox import one_box, one_box_program, picked_program
from neverboxes.powers import compare
from neverboxes.programs import Program
from neverboxes.tables import Table
from tests.definitions import and_table, gustave_table
from tests.samples import (
    all_but, not_table, or_stock, or_table, raised, raised_is, rows_of, some_table, yes_table,
)

NAMES = "abcde"


def stock_of(*tables, signs=2):
    return Stock(*[Box(name, table) for name, table in zip(NAMES, tables)], signs=signs)


def selecting(boxes, signs):
    return {2: [0, 0, 1, 2, 2, 3], 3: [0, 0, 1, 1, 2, 2]}[signs][boxes]


def value_of_one_box(stock, row):
    """The value of [30] at a row."""
    many = selecting(len(stock), stock.signs)
    if None in row[:many] or len(stock) == 0:
        return None
    position = 0
    for digit in row[:many]:
        position = position * stock.signs + digit
    if position >= len(stock):
        return None
    table = stock.boxes()[position].table
    return table(row[many:many + table.inputs])


class OneBoxTest(unittest.TestCase):
    def check(self, stock):
        box = one_box(stock, "one")
        many = selecting(len(stock), stock.signs)
        inputs = many + max([kept.table.inputs for kept in stock.boxes()], default=0)
        self.assertEqual([box.name, box.table.inputs, box.table.signs], ["one", inputs, stock.signs])
        rows = rows_of(inputs, stock.signs)
        values = [value_of_one_box(stock, row) for row in rows]
        self.assertEqual(box.table.all_values(), values)
        program = one_box_program(stock, "one")
        self.assertIsInstance(program, Program)
        self.assertEqual([program.stock, program.inputs], [stock, inputs])
        self.assertEqual([program(row) for row in rows], values)
        for kept in stock.boxes():
            self.check_picked(stock, box, kept)

    def check_picked(self, stock, one, kept):
        program = picked_program(stock, "one", kept.name)
        self.assertIsInstance(program, Program)
        self.assertEqual([program.stock, program.inputs], [Stock(one, signs=stock.signs), kept.table.inputs])
        rows = rows_of(kept.table.inputs, stock.signs)
        self.assertEqual([program(row) for row in rows], kept.table.all_values())
        self.assertEqual(program, picked_program(stock, "one", kept.name))

    def test_no_box(self):
        for signs in (2, 3):
            self.check(Stock(signs=signs))
            self.assertEqual(one_box(Stock(signs=signs), "a"), Box("a", Table(0, [], signs=signs)))

    def test_one_box(self):
        self.check(stock_of(or_table()))
        self.assertEqual(one_box(stock=stock_of(or_table()), name="a"), Box("a", or_table()))
        self.check(stock_of(yes_table()))
        self.check(stock_of(Table(5, [((None, 1, 0, 1, 1), 1)])))

    def test_two_boxes(self):
        self.check(stock_of(or_table(), and_table()))
        self.check(stock_of(yes_table(), gustave_table()))
        table = one_box(stock_of(not_table(), yes_table()), "x").table
        self.assertEqual(table.least, [((0, 0), 1), ((0, 1), 0), ((1, None), 1)])

    def test_three_boxes_and_more(self):
        self.check(stock_of(or_table(), gustave_table(), yes_table()))
        self.check(stock_of(or_table(), not_table(), yes_table(), and_table()))
        self.check(stock_of(or_table(), not_table(), yes_table(), and_table(), Table(2, [])))
        self.check(stock_of(yes_table(), yes_table(), yes_table(), yes_table(), yes_table()))

    def test_three_signs(self):
        self.check(or_stock(3))
        self.check(stock_of(*[or_table(3), not_table(3), and_table(3)], signs=3))
        self.check(stock_of(*[or_table(3), not_table(3), and_table(3), yes_table(3)], signs=3))
        self.check(stock_of(*[not_table(3), yes_table(3), and_table(3), or_table(3), Table(1, [], signs=3)], signs=3))

    def test_drawn_stocks(self):
        chance = random.Random(30)
        for at in range(40):
            signs = 2 + at % 2
            boxes = chance.randint(0, 5)
            most = (5 if signs == 2 else 4) - selecting(boxes, signs)
            tables = [some_table(chance, chance.randint(0, most), signs) for _ in range(boxes)]
            self.check(stock_of(*tables, signs=signs))

    def test_the_stock_and_its_one_box_are_alike(self):
        for stock in (Stock(), stock_of(or_table(), not_table()), stock_of(gustave_table(), yes_table())):
            self.assertEqual(compare(Stock(one_box(stock, "one")), stock), "alike")

    def test_a_name_of_the_stock(self):
        # The name of the one box may be that of a box of the stock: its own stock has no other box.
        stock = stock_of(or_table(), not_table())
        self.assertEqual(one_box(stock, "a").table, one_box(stock, "z").table)
        program = picked_program(stock, "a", "b")
        self.assertEqual([program((0,)), program((1,)), program.stock.names()], [1, 0, ["a"]])

    def test_names(self):
        stock = stock_of(or_table())
        for value in all_but(["or", "input"]):
            for told in (raised(one_box, stock, value), raised(one_box_program, stock, value),
                         raised(picked_program, stock, value, None)):
                raised_is(self, told, ("InvalidName", value))
        self.assertEqual(picked_program(box="a", name="abcdefgh", stock=stock).used, ["abcdefgh"])
        self.assertEqual(one_box_program(name="x", stock=stock).used, ["a"])

    def test_too_many_inputs(self):
        five = Table(5, [((0,) * 5, 1)])
        four = Table(4, [((0,) * 4, 1)])
        for stock, inputs in ((stock_of(five, yes_table()), 6), (stock_of(yes_table(), not_table(), four), 6),
                              (stock_of(*[or_table()] * 4, gustave_table()), 6), (stock_of(*[five] * 5), 8),
                              (stock_of(*[Table(4, [], signs=3)] * 2, signs=3), 5),
                              (stock_of(*[gustave_three()] * 4, signs=3), 5)):
            for told in (raised(one_box, stock, "a"), raised(one_box_program, stock, "a"),
                         raised(picked_program, stock, "a", 5)):
                self.assertEqual(told, ("TooMany", "inputs", inputs))
            self.assertEqual(raised(one_box, stock, "A"), ("InvalidName", "A"))
        self.check(stock_of(four, yes_table()))
        self.check(stock_of(*[or_table()] * 5))

    def test_unknown_boxes(self):
        stock = stock_of(or_table(), not_table())
        for value in all_but([]):
            raised_is(self, raised(picked_program, stock, "one", value), ("UnknownName", value))
        self.assertEqual(raised(picked_program, stock, "one", "one"), ("UnknownName", "one"))
        self.assertEqual(raised(picked_program, Stock(), "one", "a"), ("UnknownName", "a"))


def gustave_three():
    return Table(3, gustave_table().least, signs=3)
