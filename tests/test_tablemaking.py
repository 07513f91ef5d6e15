import random
import unittest

from neverboxes import tablemaking
from neverboxes.boxes import Box, Stock
from neverboxes.programs import Program
from neverboxes.sheets import sheet_of
from neverboxes.tablemaking import barred, make_table, makes
from neverboxes.tables import Table
from tests.definitions import (
    and_table, break_of, columns_of_stock, gustave_table, layer_table, some_stock,
)
from tests.samples import (
    by_row, hangs_by_values, is_under, least_by_values, not_table, or_stock, or_table, raised, raised_is, rows_of,
    some_table, yes_table,
)

OR = Stock(Box("or", or_table()))
GUSTAVE = Stock(Box("g", gustave_table()))


def tables_of_two_inputs():
    """All tables of two signs and two inputs."""
    found = [{}]
    for row in rows_of(2, 2):
        grown = []
        for values in found:
            lower = {values[other] for other in values if values[other] is not None and is_under(other, row)}
            upper = {values[other] for other in values if is_under(row, other)}
            for value in (None, 0, 1):
                if lower <= {value} and (value is None or upper <= {value}):
                    grown.append({**values, row: value})
        found = grown
    return [Table.of_values(2, list(values.values())) for values in found]


def is_stuck(table, row):
    """Whether asking cannot go on at a row, as [31] has it."""
    above = [other for other in rows_of(table.inputs, table.signs) if is_under(row, other) and table(other) is not None]
    if table(row) is not None or not above:
        return False
    return all(any(other[at] is None for other in above) for at, value in enumerate(row) if value is None)


class TestListsTest(unittest.TestCase):
    def test_examples(self):
        least = [(None, 1), (0, 0), (1, None)]
        self.assertEqual(tablemaking.test_lists(or_table()), [least, least + [(None, 0)], least + [(0, None)]])
        self.assertEqual(tablemaking.test_lists(table=Table(1, [((0,), 1)])), [[(0,)], [(0,), (1,)]])
        self.assertEqual(tablemaking.test_lists(not_table()), [[(0,), (1,)], [(0,), (1,), (None,)]])

    def test_tables_that_answer_or_hang_everywhere(self):
        self.assertEqual(tablemaking.test_lists(Table(2, [])), [])
        self.assertEqual(tablemaking.test_lists(Table(0, [], signs=3)), [])
        self.assertEqual(tablemaking.test_lists(yes_table()), [[()]])
        self.assertEqual(tablemaking.test_lists(Table(2, [((None, None), 0)])), [[(None, None)]])

    def test_agrees_with_the_definition(self):
        chance = random.Random(26)
        for at in range(40):
            table = some_table(chance, at % 4, 2 + at % 2)
            values = by_row(table)
            least = [row for row, _ in least_by_values(values)]
            hangs = hangs_by_values(values)
            expected = [least, *[least + [row] for row in hangs]] if least else []
            self.assertEqual(tablemaking.test_lists(table), expected)

    def test_told_lists_are_new(self):
        table = or_table()
        told = tablemaking.test_lists(table)
        told[0].clear()
        self.assertEqual(len(told[1]), 4)
        told.clear()
        self.assertEqual(tablemaking.test_lists(table), tablemaking.test_lists(or_table()))


class MakesTest(unittest.TestCase):
    def check_made(self, table, stock):
        self.assertIs(barred(table, stock), None)
        self.assertIs(makes(stock, table), True)
        program = make_table(table, stock)
        self.assertIsInstance(program, Program)
        self.assertEqual([program.stock, program.inputs], [stock, table.inputs])
        self.assertEqual([program(row) for row in rows_of(table.inputs, table.signs)], table.all_values())

    def check_barred(self, table, stock):
        bar = barred(table, stock)
        self.assertEqual(bar, self.first_bar(table, stock))
        self.assertIsInstance(bar[0], tuple)
        self.assertIs(makes(stock, table), False)
        raised_is(self, raised(make_table, table, stock), ("NotMade", *bar))

    def first_bar(self, table, stock):
        for rows in tablemaking.test_lists(table):
            bent = break_of(tuple(table(row) for row in rows), sheet_of(rows, stock).pairs())
            if bent:
                return tuple(rows), *bent
        return None

    def check(self, table, stock):
        if self.first_bar(table, stock) is None:
            self.check_made(table, stock)
        else:
            self.check_barred(table, stock)

    def test_example_of_the_document(self):
        self.assertEqual(barred(or_table(), Stock()), (((None, 1), (0, 0), (1, None)), (0, 2), 0, 1))
        self.assertEqual(barred(stock=Stock(), table=or_table()), barred(or_table(), Stock()))
        self.check_made(or_table(), OR)

    def test_all_tables_of_two_inputs(self):
        for table in tables_of_two_inputs():
            self.check(table, Stock())
            # Asking makes exactly the tables without stuck rows ([31]), and or makes all tables ([28]).
            self.assertIs(makes(Stock(), table), not any(is_stuck(table, row) for row in rows_of(2, 2)))
            self.check_made(table, OR)

    def test_tables_of_one_input_and_three_signs(self):
        chance = random.Random(261)
        for _ in range(12):
            stock = some_stock(chance, 3)
            columns = columns_of_stock(rows_of(1, 3), stock)
            table = some_table(chance, 1, 3)
            self.assertIs(makes(stock, table), tuple(table.all_values()) in columns)
            self.check(table, stock)

    def test_columns_at_all_rows(self):
        partial = Table(2, [((0, None), 1), ((None, 0), 1)])
        for stock in (Stock(Box("a", partial)), Stock(Box("no", not_table()), Box("at", Table(2, [((1, None), 1)])))):
            columns = columns_of_stock(rows_of(2, 2), stock)
            for table in tables_of_two_inputs()[::3]:
                self.assertIs(makes(stock, table), tuple(table.all_values()) in columns)

    def test_a_box_between_asking_and_or(self):
        self.check_barred(or_table(), GUSTAVE)
        self.check_barred(gustave_table(), Stock())
        self.check_made(gustave_table(), GUSTAVE)
        self.check_made(gustave_table(), OR)

    def test_drawn_tables(self):
        chance = random.Random(263)
        made = {True: 0, False: 0}
        while min(made.values()) < 12:
            signs = chance.choice([2, 3])
            table = some_table(chance, chance.randrange(4), signs, 5)
            stock = some_stock(chance, signs)
            if raised(barred, table, stock) is None:
                self.check(table, stock)
                made[makes(stock, table)] += 1

    def test_the_table_that_hangs_everywhere(self):
        many = Stock(Box("a", layer_table(80)))
        for stock in (Stock(), OR, many):
            for inputs in (0, 2, 5):
                self.check_made(Table(inputs, []), stock)
        self.check_made(Table(4, [], signs=3), Stock(signs=3))

    def test_tables_without_inputs(self):
        for stock in (Stock(), OR):
            self.check_made(yes_table(), stock)
            self.check_made(Table(0, [((), 0)]), stock)
        self.check_made(Table(0, [((), 2)], signs=3), or_stock(3))

    def test_tables_that_answer_everywhere(self):
        self.check_made(Table(5, [((None,) * 5, 1)]), Stock())
        self.check_made(Table(4, [((None,) * 4, 2)], signs=3), Stock(signs=3))

    def test_each_stock_makes_its_boxes(self):
        stock = Stock(*[Box(name, table) for name, table in
                        zip("abcde", (or_table(), and_table(), not_table(), gustave_table(), yes_table()))])
        for box in stock.boxes():
            self.check_made(box.table, stock)
        self.check_made(or_table(3), or_stock(3))

    def test_six_least_rows(self):
        self.check(layer_table(6), Stock())
        self.check_made(Table(3, [((0, 0, None), 0), ((0, 1, 0), 1), ((0, 1, 1), 0), ((1, None, 0), 0),
                                  ((1, 0, 1), 1), ((1, 1, 1), 0)]), Stock())

    def test_equal_calls_make_equal_programs(self):
        self.assertEqual(make_table(or_table(), OR), make_table(or_table(), Stock(Box("or", or_table()))))


class ErrorsTest(unittest.TestCase):
    def check(self, expected, table, stock):
        raised_is(self, raised(barred, table, stock), expected)
        raised_is(self, raised(makes, stock, table), expected)
        raised_is(self, raised(make_table, table, stock), expected)

    def test_signs(self):
        self.check(("Mismatch",), or_table(3), Stock())
        self.check(("Mismatch",), or_table(), Stock(signs=3))
        self.check(("Mismatch",), Table(2, [], signs=3), OR)

    def test_many_rows(self):
        self.check(("TooMany", "rows", 8), layer_table(7), Stock())
        self.check(("TooMany", "rows", 81), layer_table(80), Stock())
        self.assertIs(raised(makes, Stock(), layer_table(6)), None)
        self.check(("TooMany", "rows", 8), layer_table(7), Stock(Box("a", layer_table(80))))

    def test_many_picks(self):
        # or has the longest test lists of four rows.
        self.check(("TooMany", "picks", 15 ** 4), or_table(), Stock(Box("or", or_table()), Box("a", layer_table(14))))
        # The bound is checked ahead of all test lists, also where the first one bars the table.
        self.check(("TooMany", "picks", 15 ** 4), or_table(), Stock(Box("a", layer_table(14))))
        self.assertIs(makes(Stock(Box("a", layer_table(13))), or_table()), False)
        # A table that answers everywhere has one test list of one row.
        self.assertIs(makes(Stock(Box("a", layer_table(80))), Table(5, [((None,) * 5, 1)])), True)
        self.assertIs(makes(Stock(Box("a", layer_table(80))), Table(1, [((0,), 1)])), True)
        self.check(("TooMany", "picks", 81 ** 3), Table(1, [((0,), 1), ((1,), 0)]), Stock(Box("a", layer_table(80))))

    def test_order(self):
        self.check(("Mismatch",), layer_table(7), Stock(signs=3))
        self.check(("TooMany", "picks", 5 ** 7), layer_table(6), Stock(Box("a", layer_table(4))))
