import random
import unittest

from neverboxes.boxes import Box, Stock
from neverboxes.making import guard, make, splitter
from neverboxes.programs import Program
from neverboxes.sheets import sheet_of
from tests.definitions import (
    THREE_ROWS, and_table, break_of, does_answer, is_alike, some_column, some_stock, telling_case,
)
from tests.samples import all_but, any_values, or_stock, or_table, raised, raised_is, some_cases, some_table

OR = Stock(Box("or", or_table()))


def drawn_sheets(many, seed, most=4):
    chance = random.Random(seed)
    for at in range(many):
        signs = chance.choice([2, 2, 3])
        count = chance.randint(1, most)
        if at % 3:
            stock, rows = telling_case(chance, signs, count)
        else:
            stock = some_stock(chance, signs)
            rows = [row for row, _ in some_cases(chance, chance.randrange(9), signs, count)]
        yield sheet_of(rows, stock)


class MakingTest(unittest.TestCase):
    def check_program(self, sheet, program):
        """Checks the kind of a program that is made, and tells its column."""
        self.assertIsInstance(program, Program)
        self.assertEqual([program.stock, program.inputs], [sheet.stock, len(sheet.rows()[0])])
        return program.column(sheet.rows())

    def test_three_rows(self):
        sheet = sheet_of(THREE_ROWS, OR)
        self.assertEqual(make(sheet, (1, 1, 0)).column(THREE_ROWS), (1, 1, 0))
        self.assertEqual(make(column=(1, 1, None), sheet=sheet).column(THREE_ROWS), (1, 1, None))
        self.assertEqual(make(sheet, (1, 1, 0)).used, ["or"])
        self.assertEqual(raised(make, sheet_of(THREE_ROWS, Stock()), (1, 1, 0)), ("Broken", (0, 1), 0, 2))

    def test_every_column(self):
        for sheet in drawn_sheets(60, seed=22):
            for column in sheet.every_column():
                self.assertEqual(self.check_program(sheet, make(sheet, column)), column)

    def test_splitters_and_guards(self):
        opened = 0
        for sheet in drawn_sheets(60, seed=221, most=5):
            for lot in sheet.open_lots():
                opened += 1
                column = self.check_program(sheet, splitter(sheet, lot))
                self.assertTrue(does_answer(column, lot) and not is_alike(column, lot))
            for lot, reach in sheet.pairs():
                column = self.check_program(sheet, guard(lot=lot, sheet=sheet))
                self.assertEqual(column, tuple(0 if row in reach else None for row in range(len(column))))
        self.assertGreater(opened, 30)

    def test_edges(self):
        for signs in (2, 3):
            for rows in ([()], [()] * 7, [(None,) * 8] * 7, [(0,) * 8]):
                sheet = sheet_of(rows, Stock(signs=signs))
                for value in (None, 0, signs - 1):
                    column = (value,) * len(rows)
                    self.assertEqual(self.check_program(sheet, make(sheet, column)), column)
        sheet = sheet_of([()] * 3, or_stock())
        self.assertEqual(self.check_program(sheet, guard(sheet, (1,))), (0, 0, 0))

    def test_seven_rows_and_five_boxes(self):
        chance = random.Random(227)
        for _ in range(6):
            tables = [some_table(chance, 3, 2, 3) for _ in range(3)] + [or_table(), and_table()]
            if max(len(table) for table in tables) > 3:
                continue
            stock = Stock(*[Box(name, table) for name, table in zip("abcde", tables)])
            rows = [row for row, _ in some_cases(chance, 4, 2, 7)]
            sheet = sheet_of(rows, stock)
            for column in chance.sample(list(sheet.every_column()), 8):
                self.assertEqual(self.check_program(sheet, make(sheet, column)), column)

    def test_equal_calls_make_equal_programs(self):
        for sheet in drawn_sheets(10, seed=2):
            again = sheet_of(sheet.rows(), sheet.stock)
            for column in sheet.every_column():
                self.assertEqual(make(sheet, column), make(again, column))

    def test_the_sheet_stays_as_it_was(self):
        sheet = sheet_of(THREE_ROWS, OR)
        make(sheet, (1, 1, 0))
        splitter(sheet, (0, 2))
        guard(sheet, (0, 1))
        self.assertEqual([sheet, sheet.rows(), sheet.stock], [sheet_of(THREE_ROWS, OR), THREE_ROWS, OR])


class ErrorsTest(unittest.TestCase):
    def test_wrong_columns(self):
        sheet = sheet_of(THREE_ROWS, OR)
        for value in [*any_values(), (0, 0), [0, 0, 0], (0, 0, 2), (0, 0, True), (0,) * 4]:
            self.assertEqual(raised(make, sheet, value), ("InvalidColumn",), repr(value))

    def test_broken_columns(self):
        chance = random.Random(229)
        broken = 0
        for sheet in drawn_sheets(60, seed=229):
            column = some_column(chance, len(sheet.rows()), sheet.stock.signs)
            bent = break_of(column, sheet.pairs())
            if bent:
                broken += 1
                raised_is(self, raised(make, sheet, column), ("Broken", *bent))
        self.assertGreater(broken, 10)

    def test_wrong_lots(self):
        sheet = sheet_of(THREE_ROWS, OR)
        for value in [*any_values(), *[lot for lot, _ in sheet.pairs()], (True, 2), (2, 0), (0, 3), (0, 2, 2), [0, 2]]:
            raised_is(self, raised(splitter, sheet, value), ("UnknownLot", value))
        for value in [*all_but([(0,), (1,)]), *sheet.open_lots(), (False,), (True,), (1, 0), [0], (3,)]:
            raised_is(self, raised(guard, sheet, value), ("UnknownLot", value))
