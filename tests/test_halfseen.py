import random
import unittest

from neverboxes.boxes import Box, Stock
from neverboxes.certificates import bars_column, certificate
from neverboxes.halfseen import HalfSeen
from neverboxes.programs import Program
from neverboxes.sheets import sheet_of
from neverboxes.wishes import Wish, may_be
from tests.definitions import (
    THREE_ROWS, and_table, columns_of_stock, some_column, some_stock, steps_by_definition, telling_case,
)
from tests.samples import all_but, or_table, raised, raised_is, rows_of

OR = Stock(Box("or", or_table()))


def or_sheet():
    return sheet_of(THREE_ROWS, OR)


def drawn_sheets(seed, many, most_rows=4):
    chance = random.Random(seed)
    for at in range(many):
        signs = chance.choice([2, 3])
        if at % 2:
            stock, rows = telling_case(chance, signs, chance.randint(1, most_rows))
        else:
            stock = some_stock(chance, signs)
            rows = [chance.choice(rows_of(2, signs)) for _ in range(chance.randint(1, most_rows))]
        if raised(sheet_of, rows, stock) is None:
            yield chance, sheet_of(rows, stock)


def seen_half(sheet, seen):
    half = HalfSeen(sheet)
    for row, value in seen.items():
        half.see(row, value)
    return half


class HalfSeenTest(unittest.TestCase):
    def check(self, half, columns):
        """Compares all that a half-seen list tells with the columns of its stock."""
        sheet, seen = half.sheet, half.seen()
        fits = [column for column in columns if all(column[row] == value for row, value in seen.items())]
        self.assertEqual(half.number(), len(fits))
        values = [None, *range(sheet.stock.signs)]
        shares = []
        for row in range(len(sheet.rows())):
            counts = {value: sum(column[row] == value for column in fits) for value in values}
            shares.append({value: many for value, many in counts.items() if many})
            self.assertEqual(half.possible(row), list(shares[-1]))
            self.assertEqual(half.shares(row), shares[-1])
            self.assertEqual(list(half.shares(row)), list(shares[-1]))
        open_rows = [row for row, told in enumerate(shares) if len(told) > 1]
        self.assertEqual(half.open_rows(), open_rows)
        sure = {row: list(told)[0] for row, told in enumerate(shares) if row not in open_rows}
        self.assertEqual([half.sure, list(half.sure)], [sure, list(sure)])
        following = min(open_rows, key=lambda row: max(shares[row].values()), default=None)
        self.assertEqual(half.next_row(), following)
        self.assertEqual(len(half), len(seen))
        self.assertEqual(repr(half), f"HalfSeen({len(seen)} of {len(shares)} rows)")
        for row in range(len(shares)):
            self.check_parting(half, row, fits, row in open_rows)

    def check_parting(self, half, row, fits, is_open):
        if not is_open:
            self.assertEqual(raised(half.parting, row), ("InvalidNumber", row))
            return
        told = half.parting(row)
        self.assertIsInstance(told, tuple)
        self.assertEqual(len(told), 2)
        rows = half.sheet.rows()
        for program in told:
            self.assertIsInstance(program, Program)
            self.assertEqual([program.stock, program.inputs], [half.sheet.stock, len(rows[0])])
            self.assertIn(program.column(rows), fits)
        self.assertNotEqual(told[0].column(rows)[row], told[1].column(rows)[row])
        self.assertEqual(told, half.parting(row))

    def test_example_of_the_document(self):
        half = HalfSeen(or_sheet())
        self.assertIs(half.see(0, 1), None)
        self.assertEqual([half.number(), half.possible(1), half.shares(1), half.shares(2), half.next_row(), half.sure],
                         [6, [None, 1], {None: 3, 1: 3}, {None: 2, 0: 2, 1: 2}, 2, {0: 1}])

    def test_nothing_seen(self):
        sheet = or_sheet()
        half = HalfSeen(sheet=sheet)
        self.assertIs(half.sheet, sheet)
        self.assertEqual([half.seen(), len(half), half.number(), half.sure, half.open_rows()],
                         [{}, 0, 21, {}, [0, 1, 2]])
        self.assertIs(bool(half), True)
        self.check(half, list(sheet.every_column()))

    def test_all_rows_seen(self):
        sheet = or_sheet()
        for column in sheet.every_column():
            half = seen_half(sheet, dict(enumerate(column)))
            self.assertEqual([half.number(), half.open_rows(), half.next_row()], [1, [], None])
            self.assertEqual(half.sure, dict(enumerate(column)))
            self.check(half, list(sheet.every_column()))

    def test_agrees_with_all_columns(self):
        for chance, sheet in drawn_sheets(33, 60):
            columns = list(sheet.every_column())
            column = chance.choice(columns)
            rows = chance.sample(range(len(column)), chance.randint(0, len(column)))
            half = seen_half(sheet, {row: column[row] for row in rows})
            self.assertEqual(half.seen(), {row: column[row] for row in sorted(rows)})
            self.assertEqual(list(half.seen()), sorted(rows))
            self.check(half, columns)

    def test_columns_of_programs(self):
        # What is possible is what some program does, worked out without the sheet.
        for chance, sheet in drawn_sheets(331, 12, most_rows=3):
            columns = sorted(columns_of_stock(sheet.rows(), sheet.stock), key=lambda column: [
                -1 if value is None else value for value in column])
            column = chance.choice(columns)
            self.check(seen_half(sheet, {0: column[0]}), columns)

    def test_values_that_do_not_agree(self):
        many = {"Clash": 0, "Barred": 0}
        for chance, sheet in drawn_sheets(332, 80):
            column = some_column(chance, len(sheet.rows()), sheet.stock.signs)
            half, seen = HalfSeen(sheet), {}
            columns = list(sheet.every_column())
            for row in chance.sample(range(len(column)), len(column)):
                told = raised(half.see, row, column[row])
                after = dict(sorted({**seen, row: column[row]}.items()))
                fits = [other for other in columns if all(other[at] == value for at, value in after.items())]
                self.assertIs(told is None, len(fits) > 0)
                if told is None:
                    seen = after
                else:
                    raised_is(self, told, self.refused(sheet, after))
                    many[told[0]] += 1
                self.assertEqual(half.seen(), seen)
        self.assertGreater(min(many.values()), 5)

    def refused(self, sheet, seen):
        """The error of the seen values, by the definition of filling."""
        told = steps_by_definition(sheet.pairs(), tuple(seen.get(row) for row in range(len(sheet.rows()))))
        if len(told) == 3:
            return ("Clash", *told)
        row = next(row for row, value in seen.items() if value is None and told[0][row] is not None)
        return ("Barred", row, told[0][row])

    def test_clash_and_barred(self):
        half = HalfSeen(sheet_of([(0,), (None,), (1,), (0,)], Stock()))
        half.see(1, 1)
        self.assertEqual(raised(half.see, 3, 0), ("Clash", (1,), 1, 3))
        self.assertEqual(raised(half.see, 3, None), ("Barred", 3, 1))
        half = HalfSeen(sheet_of([(0,), (None,), (0,)], Stock()))
        half.see(2, None)
        # The first row that was seen to hang counts, this one too.
        self.assertEqual(raised(half.see, 1, 0), ("Barred", 2, 0))
        self.assertEqual(raised(half.see, 0, 0), ("Barred", 2, 0))
        half.see(0, None)
        self.assertEqual(raised(half.see, 1, 0), ("Barred", 0, 0))
        self.assertEqual(half.seen(), {0: None, 2: None})

    def test_seen_again(self):
        half = HalfSeen(or_sheet())
        for row, value in ((0, 1), (1, None)):
            half.see(row, value)
            half.see(row, value)
            for other in {None, 0, 1} - {value}:
                self.assertEqual(raised(half.see, row, other), ("AlreadySeen", row))
        self.assertEqual([half.seen(), len(half)], [{0: 1, 1: None}, 2])

    def test_unsee(self):
        half = HalfSeen(or_sheet())
        half.see(row=2, value=0)
        half.see(0, 1)
        self.assertIs(half.unsee(row=2), None)
        self.assertEqual([half.seen(), half.number()], [{0: 1}, 6])
        for value in all_but([0]):
            raised_is(self, raised(half.unsee, value), ("NotSeen", value))
        half.see(2, 1)
        half.unsee(0)
        self.assertEqual(half.seen(), {2: 1})
        self.check(half, list(or_sheet().every_column()))

    def test_rows_that_are_seen_later_come_in_order(self):
        half = HalfSeen(or_sheet())
        half.see(2, 0)
        half.see(0, 1)
        self.assertEqual([list(half.seen().items()), list(half.sure.items())[0]], [[(0, 1), (2, 0)], (0, 1)])

    def test_one_row_and_seven_rows(self):
        half = HalfSeen(sheet_of([()], Stock(signs=3)))
        self.check(half, [(None,), (0,), (1,), (2,)])
        half.see(0, 2)
        self.check(half, [(2,)])
        rows = [tuple(sign if at == row else 1 - sign for at in range(7)) for row in range(7) for sign in (1,)]
        half = HalfSeen(sheet_of(rows, Stock()))
        self.assertEqual(half.number(), 3 ** 7)
        half.see(3, None)
        half.see(6, 0)
        self.assertEqual([half.number(), half.shares(0), half.next_row()], [243, dict.fromkeys([None, 0, 1], 81), 0])
        self.assertEqual(half.sure, {3: None, 6: 0})
        rows = [(row % 3, row // 3) for row in range(7)]
        half = HalfSeen(sheet_of(rows, Stock(signs=3)))
        self.assertEqual([half.number(), half.shares(6)], [4 ** 7, dict.fromkeys([None, 0, 1, 2], 4 ** 6)])

    def test_seven_rows_agree_with_wishes_and_certificates(self):
        chance = random.Random(333)
        refused = 0
        for at in range(30):
            signs = 2 + at % 2
            stock = Stock(Box("x", chance.choice([or_table(signs), and_table(signs)])), signs=signs)
            told = [row for row in rows_of(3, signs) if row.count(None) in (1, 2)]
            rows = [chance.choice(told) for _ in range(7)]
            sheet = sheet_of(rows, stock)
            half = HalfSeen(sheet)
            for row in chance.sample(range(7), 3):
                value = chance.choice(half.possible(row))
                half.see(row, value)
            items = ["?" if row not in half.seen() else "~" if half.seen()[row] is None else str(half.seen()[row])
                     for row in range(7)]
            for row in range(7):
                self.assertEqual(half.possible(row), may_be(sheet, Wish(*items), row))
            column = some_column(chance, 7, signs)
            agree = raised(seen_half, sheet, dict(enumerate(column))) is None
            word, value = certificate(sheet, column)
            self.assertEqual(word, "made" if agree else "barred")
            if not agree:
                self.assertIs(bars_column(rows, stock, column, value), True)
                refused += 1
        self.assertGreater(refused, 5)

    def test_the_next_row_has_the_least_greatest_share(self):
        # Row 0 is below the others, so more columns hang at it.
        half = HalfSeen(sheet_of([(None,), (0,), (1,)], Stock()))
        self.assertEqual(half.shares(0), {None: 9, 0: 1, 1: 1})
        self.assertEqual(half.shares(1), {None: 3, 0: 4, 1: 4})
        self.assertEqual(half.next_row(), 1)
        half.see(1, 0)
        self.assertEqual([half.shares(0), half.shares(2), half.next_row()], [{None: 3, 0: 1}, {None: 1, 0: 2, 1: 1}, 2])

    def test_twin(self):
        half = HalfSeen(or_sheet())
        half.see(2, 0)
        half.see(0, None)
        twin = half.twin()
        self.assertIs(twin.sheet, half.sheet)
        self.assertEqual(list(twin.seen().items()), [(0, None), (2, 0)])
        twin.unsee(0)
        half.see(1, 1)
        self.assertEqual([twin.seen(), half.seen()], [{2: 0}, {0: None, 1: 1, 2: 0}])

    def test_numbers_of_rows(self):
        half = HalfSeen(or_sheet())
        for value in all_but([0, 1, 2]):
            for call in (half.possible, half.shares, half.parting):
                raised_is(self, raised(call, value), ("InvalidNumber", value))
            raised_is(self, raised(half.see, value, "x"), ("InvalidNumber", value))
        half.see(0, 0)
        for value in all_but([1, 2]):
            raised_is(self, raised(half.parting, value), ("InvalidNumber", value))

    def test_values(self):
        for signs, sheet in ((2, or_sheet()), (3, sheet_of(THREE_ROWS, Stock(signs=3)))):
            half = HalfSeen(sheet)
            half.see(0, 0)
            for value in all_but([None, *range(signs)]):
                raised_is(self, raised(half.see, 0, value), ("InvalidValue", value))
                raised_is(self, raised(half.see, 1, value), ("InvalidValue", value))
            self.assertEqual(half.seen(), {0: 0})
            # That another value was seen is told ahead of a clash.
            self.assertEqual(raised(half.see, 0, 1), ("AlreadySeen", 0))

    def test_told_lists_and_dicts_are_new(self):
        half = HalfSeen(or_sheet())
        half.see(0, 1)
        for told in (half.seen(), half.possible(1), half.sure, half.open_rows(), half.shares(1)):
            told.clear()
        self.assertEqual([half.seen(), half.possible(1), half.sure, half.open_rows(), half.shares(1)],
                         [{0: 1}, [None, 1], {0: 1}, [1, 2], {None: 3, 1: 3}])
        self.assertEqual(half.sheet, or_sheet())
