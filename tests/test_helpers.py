import random
import unittest
from itertools import product

from neverboxes.boxes import Box, Stock
from neverboxes.helpers import adds_nothing, helped_sheet, table_behind, with_helpers
from neverboxes.sheets import Sheet, sheet_of
from neverboxes.tables import Table
from tests.definitions import THREE_ROWS, some_column, some_stock
from tests.samples import all_but, any_values, do_fit, is_under, or_table, raised, raised_is, rows_of
from tests.test_trees import parity

OR = Stock(Box("or", or_table()))


class WithHelpersTest(unittest.TestCase):
    def test_rows(self):
        rows = [(1, None), (None, 1), (0, 0)]
        columns = [(1, 1, 0), (None, 0, None)]
        told = with_helpers(rows, columns, 2)
        self.assertEqual(told, [(1, None, 1, None), (None, 1, 1, 0), (0, 0, 0, None)])
        self.assertEqual(with_helpers(signs=2, columns=tuple(columns), rows=tuple(rows)), told)
        self.assertEqual([with_helpers(rows, [], 3), with_helpers([()], [(2,)], 3)], [rows, [(2,)]])
        self.assertEqual([rows, columns], [[(1, None), (None, 1), (0, 0)], [(1, 1, 0), (None, 0, None)]])
        told.clear()
        self.assertEqual(len(with_helpers(rows, columns, 2)), 3)

    def test_sheets(self):
        sheet = sheet_of(THREE_ROWS, OR)
        told = helped_sheet(columns=[(1, 1, 0)], sheet=sheet)
        self.assertIsInstance(told, Sheet)
        self.assertEqual(told.rows(), with_helpers(THREE_ROWS, [(1, 1, 0)], 2))
        self.assertEqual([told.stock, told.pairs()], [OR, sheet.pairs()])
        # Without the box the same column opens lots.
        plain = sheet_of(THREE_ROWS, Stock())
        self.assertEqual(helped_sheet(plain, ((1, 1, 0),)).pairs(), sheet.pairs())
        self.assertNotEqual(plain.pairs(), sheet.pairs())
        self.assertEqual(helped_sheet(plain, []), plain)

    def test_the_sheet_stays_the_same_exactly_for_columns_of_the_stock(self):
        chance = random.Random(34)
        seen = {True: 0, False: 0}
        while min(seen.values()) < 20:
            signs = chance.choice([2, 3])
            stock = some_stock(chance, signs)
            rows = [chance.choice(rows_of(2, signs)) for _ in range(chance.randint(1, 4))]
            if raised(sheet_of, rows, stock) is not None:
                continue
            sheet = sheet_of(rows, stock)
            columns = [some_column(chance, len(rows), signs) for _ in range(chance.randint(1, 3))]
            told = helped_sheet(sheet, columns)
            self.assertEqual(told, sheet_of(with_helpers(rows, columns, signs), stock))
            same = all(adds_nothing(sheet, column) for column in columns)
            self.assertIs(told.pairs() == sheet.pairs(), same)
            for column in columns:
                self.assertIs(adds_nothing(column=column, sheet=sheet), column in list(sheet.every_column()))
            seen[same] += 1

    def test_up_to_eight_inputs(self):
        rows = [(0,) * 5, (1,) * 5]
        sheet = sheet_of(rows, Stock())
        for many in (3, 4):
            columns = [(0, 1)] * many
            expected = None if many == 3 else ("TooMany", "inputs", 9)
            self.assertEqual(raised(with_helpers, rows, columns, 2), expected)
            self.assertEqual(raised(helped_sheet, sheet, columns), expected)
        self.assertEqual(with_helpers([(0,) * 8], [], 2), [(0,) * 8])
        self.assertEqual(raised(with_helpers, [()], [(0,)] * 20, 2), ("TooMany", "inputs", 20))

    def test_wrong_columns(self):
        sheet = sheet_of(THREE_ROWS, OR)
        for value in any_values():
            if not isinstance(value, (list, tuple)) or len(value) > 0:
                self.assertEqual(raised(with_helpers, THREE_ROWS, value, 2), ("InvalidColumn",), repr(value))
                self.assertEqual(raised(helped_sheet, sheet, value), ("InvalidColumn",))
            if value != (None, None, None):
                self.assertEqual(raised(with_helpers, THREE_ROWS, [(0, 0, 0), value], 2), ("InvalidColumn",))
                self.assertEqual(raised(helped_sheet, sheet, [value]), ("InvalidColumn",))
                self.assertEqual(raised(adds_nothing, sheet, value), ("InvalidColumn",))
        for value in ((0, 1), (0, 1, 2), [0, 1, 1], (0, True, 1), (0, 1, 1, 1)):
            self.assertEqual(raised(helped_sheet, sheet, [value]), ("InvalidColumn",))
            # A wrong column is told ahead of too many inputs.
            self.assertEqual(raised(with_helpers, THREE_ROWS, [(0, 1, 1)] * 9 + [value], 2), ("InvalidColumn",))
        self.assertEqual(with_helpers([(2,)], [(2,)], 3), [(2, 2)])

    def test_wrong_rows_and_signs(self):
        for value in all_but([2, 3]):
            raised_is(self, raised(with_helpers, None, None, value), ("InvalidSigns", value))
        for rows, expected in ((None, ("InvalidRow", -1)), ([], ("InvalidRow", -1)), ([()] * 8, ("TooMany", "rows", 8)),
                               ([(0,), (2,)], ("InvalidRow", 1)), ([(0,) * 9], ("TooMany", "inputs", 9))):
            self.assertEqual(raised(with_helpers, rows, None, 2), expected)


class TableBehindTest(unittest.TestCase):
    def parted(self, rows, column):
        for one, other in product(range(len(rows)), repeat=2):
            if column[one] is None or column[one] == column[other]:
                continue
            if column[other] is not None and do_fit(rows[one], rows[other]) or is_under(rows[one], rows[other]):
                return ("Parted", one, other)
        return None

    def test_examples(self):
        self.assertEqual(table_behind([(1, None), (None, 1), (0, 0)], (1, 1, 0), 2), or_table())
        self.assertEqual(table_behind(signs=3, column=(None, 2), rows=((0,), (1,))), Table(1, [((1,), 2)], signs=3))
        self.assertEqual(table_behind([()], (None,), 2), Table(0, []))
        self.assertEqual(table_behind([()], (1,), 2), Table(0, [((), 1)]))
        # An answer at a row goes for the rows above it, so the second case is none of the least ones.
        self.assertEqual(table_behind([(0, None), (0, 1), (0, None)], (1, 1, 1), 2), Table(2, [((0, None), 1)]))

    def test_parted(self):
        for rows, column, one, other in (
                ([(1, None), (None, 1)], (0, 1), 0, 1), ([(0, None), (0, 1)], (1, None), 0, 1),
                ([(0, 1), (0, None)], (None, 1), 1, 0), ([(0,), (0,)], (None, 0), 1, 0),
                ([(0, 0), (1, None), (None, 1), (1, 1)], (1, 0, 1, None), 1, 2),
                ([(0, 0), (1, None), (1, 1), (None, 1)], (1, 0, None, 1), 1, 2)):
            self.assertEqual(raised(table_behind, rows, column, 2), ("Parted", one, other))
        # A row above another one may answer where that hangs, and rows that do not fit may differ.
        self.assertEqual(len(table_behind([(0, None), (0, 1), (1, 1)], (None, 1, 0), 2)), 2)

    def test_agrees_with_all_tables(self):
        chance = random.Random(341)
        seen = {True: 0, False: 0}
        while min(seen.values()) < 40:
            signs, inputs = chance.choice([2, 3]), chance.randrange(4)
            rows = [chance.choice(rows_of(inputs, signs)) for _ in range(chance.randint(1, 7))]
            column = some_column(chance, len(rows), signs)
            expected = self.parted(rows, column)
            seen[expected is None] += 1
            if expected is not None:
                raised_is(self, raised(table_behind, rows, column, signs), expected)
                continue
            table = table_behind(rows, column, signs)
            self.assertEqual([table.inputs, table.signs], [inputs, signs])
            self.assertEqual(tuple(table(row) for row in rows), column)
            for row in rows_of(inputs, signs):
                # The least table answers only where a row below has an answer.
                told = [value for given, value in zip(rows, column) if value is not None and is_under(given, row)]
                self.assertEqual(table(row), told[0] if told else None)

    def test_too_many_inputs(self):
        for signs, inputs in ((2, 6), (2, 8), (3, 5)):
            rows = [(0,) * inputs, (0,) * inputs]
            self.assertEqual(raised(table_behind, rows, (0, 1), signs), ("TooMany", "inputs", inputs))
            self.assertEqual(raised(table_behind, rows, (0,), signs), ("InvalidColumn",))
        self.assertEqual(raised(table_behind, [(0,) * 5] * 2, (0, 1), 2), ("Parted", 0, 1))
        rows = rows_of(5, 2)[-7:]
        self.assertTrue(table_behind(rows, tuple(parity(5, 2)(row) for row in rows), 2).below(parity(5, 2)))

    def test_wrong_values(self):
        for value in all_but([2, 3]):
            raised_is(self, raised(table_behind, None, None, value), ("InvalidSigns", value))
        for value in any_values():
            if value not in ((0,), (1,), (None,)):
                self.assertEqual(raised(table_behind, [(0,)], value, 2), ("InvalidColumn",), repr(value))
        for value in ((True,), [0]):
            self.assertEqual(raised(table_behind, [(0,)], value, 2), ("InvalidColumn",))
        for rows, expected in ((None, ("InvalidRow", -1)), ([(0,)] * 8, ("TooMany", "rows", 8)),
                               ([(0,), ()], ("InvalidRow", 1)), ([(0,) * 9], ("TooMany", "inputs", 9))):
            self.assertEqual(raised(table_behind, rows, None, 2), expected)
