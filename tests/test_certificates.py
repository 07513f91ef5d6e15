import random
import unittest
from itertools import product

from neverboxes.boxes import Box, Stock
from neverboxes.certificates import bars_column, certificate, shows_column, shows_open, shows_reach
from neverboxes.making import guard, make, splitter
from neverboxes.programs import Program
from neverboxes.sheets import sheet_of
from neverboxes.tables import Table
from tests.definitions import (
    THREE_ROWS, and_table, break_of, does_answer, does_keep, fault_by_definition, is_alike, layer_table, some_column,
    some_stock, telling_case,
)
from tests.samples import all_but, any_values, or_stock, or_table, raised, raised_is, some_cases, some_lines, yes_table

OR = Stock(Box("or", or_table()))
PLAIN = sheet_of(THREE_ROWS, Stock())
WITH_OR = sheet_of(THREE_ROWS, OR)
OR_LINES = [("input", 0), ("input", 1), ("box", "or", 0, 1)]
SHOWN = Program(OR, 2, OR_LINES)


def drawn_sheets(many, seed):
    chance = random.Random(seed)
    for at in range(many):
        signs = chance.choice([2, 2, 3])
        count = chance.randint(1, 4)
        if at % 3:
            stock, rows = telling_case(chance, signs, count)
        else:
            stock = some_stock(chance, signs)
            rows = [row for row, _ in some_cases(chance, chance.randrange(4), signs, count)]
        yield sheet_of(rows, stock)


class CertificateTest(unittest.TestCase):
    def test_three_rows(self):
        self.assertEqual(certificate(PLAIN, (1, 1, 0)), ("barred", (tuple(PLAIN.pairs()), (0, 1), 0, 2)))
        self.assertEqual(certificate(column=(1, 1, None), sheet=PLAIN),
                         ("barred", (tuple(PLAIN.pairs()), (0, 1), 0, 2)))
        self.assertEqual(certificate(WITH_OR, (1, 1, 0)), ("made", make(WITH_OR, (1, 1, 0))))

    def test_certificates_are_certificates(self):
        chance = random.Random(23)
        told = {"made": 0, "barred": 0}
        for sheet in drawn_sheets(60, seed=23):
            rows, stock = sheet.rows(), sheet.stock
            for _ in range(4):
                column = some_column(chance, len(rows), stock.signs)
                word, value = certificate(sheet, column)
                told[word] += 1
                if word == "made":
                    self.assertTrue(does_keep(column, sheet.pairs()))
                    self.assertEqual(value, make(sheet, column))
                else:
                    self.assertEqual(value, (tuple(sheet.pairs()), *break_of(column, sheet.pairs())))
                    self.assertIsInstance(value[0], tuple)
                self.assertIs(shows_column(rows, stock, column, value), word == "made")
                self.assertIs(bars_column(rows, stock, column, value), word == "barred")
        self.assertGreater(min(told.values()), 20)

    def test_wrong_columns(self):
        for value in [*any_values(), (0, 0), [0, 0, 0], (0, 0, 2), (0, True, 0)]:
            self.assertEqual(raised(certificate, WITH_OR, value), ("InvalidColumn",), repr(value))


class ShowsColumnTest(unittest.TestCase):
    def shows(self, program, column=(1, 1, 0), stock=OR, rows=THREE_ROWS):
        return shows_column(rows, stock, column, program)

    def test_programs(self):
        self.assertIs(self.shows(SHOWN), True)
        self.assertIs(shows_column(program=SHOWN, column=(1, 1, 0), stock=OR, rows=tuple(THREE_ROWS)), True)
        self.assertIs(self.shows(SHOWN, (1, 1, None)), False)
        self.assertIs(self.shows(SHOWN, (1, 1, 1)), False)

    def test_values_of_every_kind(self):
        for value in all_but([]):
            self.assertIs(self.shows(value, (None, None, None)), False, repr(value))

    def test_inputs_and_signs(self):
        self.assertIs(self.shows(Program(OR, 3, OR_LINES)), False)
        self.assertIs(self.shows(Program(Stock(Box("or", or_table(3)), signs=3), 2, OR_LINES)), False)
        self.assertIs(self.shows(Program(Stock(signs=3), 2, [("sign", 1)]), (1, 1, 1)), False)
        self.assertIs(self.shows(Program(Stock(), 2, [("sign", 1)]), (1, 1, 1)), True)

    def test_boxes(self):
        # The program's own stock may differ, if the boxes that it uses are those of the stock.
        more = Program(Stock(Box("yes", yes_table()), Box("or", or_table())), 2, [("box", "yes"), *OR_LINES[:2],
                                                                                ("box", "or", 1, 2)])
        self.assertIs(self.shows(more), True)
        using = Program(more.stock, 2, [("box", "yes")])
        self.assertIs(self.shows(using, (1, 1, 1)), False)
        self.assertIs(self.shows(using, (1, 1, 1), stock=or_stock()), True)
        self.assertIs(self.shows(SHOWN, stock=Stock()), False)
        self.assertIs(self.shows(SHOWN, stock=Stock(Box("other", or_table()))), False)
        self.assertIs(self.shows(SHOWN, stock=Stock(Box("or", and_table()))), False)
        bent = Table(2, [((None, 1), 1), ((1, None), 1)])
        self.assertIs(self.shows(Program(Stock(Box("or", bent)), 2, OR_LINES), (1, 1, None)), False)

    def test_each_program_made_is_shown(self):
        for sheet in drawn_sheets(30, seed=231):
            for column in list(sheet.every_column())[::5]:
                self.assertIs(shows_column(sheet.rows(), sheet.stock, column, make(sheet, column)), True)

    def test_drawn_programs(self):
        chance = random.Random(232)
        for sheet in drawn_sheets(30, seed=232):
            rows, stock = sheet.rows(), sheet.stock
            program = Program(stock, len(rows[0]), some_lines(chance, stock, len(rows[0]), 8))
            column = tuple(program(row) for row in rows)
            self.assertIs(shows_column(rows, stock, column, program), True)
            other = some_column(chance, len(rows), stock.signs)
            self.assertIs(shows_column(rows, stock, other, program), other == column)


class BarsColumnTest(unittest.TestCase):
    good = (tuple(PLAIN.pairs()), (0, 1), 0, 2)

    def bars(self, value, column=(1, 1, 0), stock=Stock(), rows=tuple(THREE_ROWS)):
        return bars_column(rows, stock, column, value)

    def test_certificates(self):
        pairs = self.good[0]
        self.assertIs(self.bars(self.good), True)
        self.assertIs(bars_column(value=self.good, column=(1, 1, 0), stock=Stock(), rows=THREE_ROWS), True)
        self.assertIs(self.bars((list(pairs), (0, 1), 1, 2)), True)
        self.assertIs(self.bars((pairs, (0, 1, 2), 2, 0)), True)
        self.assertIs(self.bars((pairs, (0, 1), 2, 1)), True)
        self.assertIs(self.bars((pairs, (0, 1), 0, 2), (1, 1, None)), True)
        # A closed list that is not the sheet will do, too.
        self.assertIs(self.bars((pairs[3:], (0, 1), 0, 2)), True)

    def test_each_single_thing_bent(self):
        pairs, lot, one, other = self.good
        for value in all_but([]):
            self.assertIs(self.bars(value), False, repr(value))
            self.assertIs(self.bars((value, lot, one, other)), False, repr(value))
            self.assertIs(self.bars((pairs, value, one, other)), False, repr(value))
        for value in all_but([0, 1]):
            self.assertIs(self.bars((pairs, lot, value, other)), False, repr(value))
        for value in all_but([2]):
            self.assertIs(self.bars((pairs, lot, one, value)), False, repr(value))
        for value in (list(self.good), self.good[:3], self.good + (0,), (pairs, [0, 1], 0, 2), (pairs, (1, 0), 0, 2),
                      (pairs, (0, 1), 0, 1), (pairs, (0, 1), 0, 0), (pairs, (0, 2), 0, 2), (pairs, (0, True), 0, 2),
                      (pairs, (0,), 0, 2), (pairs, (0, 1), False, 2), (pairs, (0, 1), True, 2), (pairs, (0, 1), 0, 3),
                      (pairs, (0, 1), -1, 2), (pairs, (0, 1), 0, -1), (pairs[::-1], (0, 1), 0, 2),
                      (pairs[:3], (0, 1), 0, 2), (pairs + pairs[-1:], (0, 1), 0, 2)):
            self.assertIs(self.bars(value), False, value)

    def test_the_column_answers_on_the_lot_and_at_one(self):
        self.assertIs(self.bars(self.good, (1, None, 0)), False)
        self.assertIs(self.bars(self.good, (1, 1, 1)), False)
        self.assertIs(self.bars((self.good[0], (0, 1), 2, 0), (1, 1, None)), False)
        self.assertIs(self.bars((self.good[0], (0, 1), 0, 1), (1, 0, None)), True)

    def test_the_list_of_pairs_is_closed(self):
        self.assertIs(self.bars(self.good, stock=OR), False)
        self.assertIs(self.bars(self.good, stock=OR, column=(1, 0, None)), False)
        self.assertIs(self.bars((tuple(WITH_OR.pairs()), (0, 1), 0, 1), stock=OR, column=(1, 0, None)), True)
        # The column of an input breaks the pair of the lot (0, 2).
        pairs = [((0, 2), (0, 2))]
        self.assertIs(self.bars((pairs, (0, 2), 0, 2), column=(1, None, 0)), False)
        self.assertIs(self.bars((pairs, (0, 2), 0, 2), column=(1, None, 0), rows=[(), (), ()]), True)

    def test_agrees_with_the_definition(self):
        chance = random.Random(236)
        told = {True: 0, False: 0}
        for sheet in drawn_sheets(100, seed=236):
            rows, stock, pairs = sheet.rows(), sheet.stock, sheet.pairs()
            column = some_column(chance, len(rows), stock.signs)
            if chance.random() < 0.4:
                del pairs[chance.randrange(len(pairs))]
            closed = fault_by_definition(rows, stock, pairs) is None
            lot = chance.choice(sheet.pairs())[0]
            reach = dict(pairs).get(lot, ())
            for one, other in product(range(len(rows)), repeat=2):
                expected = closed and does_answer(column, lot) and one in reach and other in reach
                expected = expected and column[one] is not None and column[one] != column[other]
                before = list(pairs)
                self.assertIs(bars_column(rows, stock, column, (pairs, lot, one, other)), expected)
                self.assertEqual(pairs, before)
                told[expected] += 1
        self.assertGreater(min(told.values()), 10)


class ShowsOpenTest(unittest.TestCase):
    def test_splitters(self):
        for sheet in drawn_sheets(40, seed=237):
            for lot in sheet.open_lots():
                self.assertIs(shows_open(sheet.rows(), sheet.stock, lot, splitter(sheet, lot)), True)

    def test_agrees_with_the_definition(self):
        chance = random.Random(238)
        for sheet in drawn_sheets(60, seed=238):
            rows, stock = sheet.rows(), sheet.stock
            program = Program(stock, len(rows[0]), some_lines(chance, stock, len(rows[0]), 6))
            column = tuple(program(row) for row in rows)
            for lot in [lot for lot, _ in sheet.pairs()] + sheet.open_lots():
                expected = does_answer(column, lot) and not is_alike(column, lot)
                self.assertIs(shows_open(rows, stock, lot, program), expected)

    def test_programs(self):
        self.assertIs(shows_open(THREE_ROWS, OR, (0, 2), SHOWN), True)
        self.assertIs(shows_open(program=SHOWN, lot=(0, 1, 2), stock=OR, rows=THREE_ROWS), True)
        self.assertIs(shows_open(THREE_ROWS, OR, (0, 1), SHOWN), False)
        self.assertIs(shows_open(THREE_ROWS, Stock(), (0, 2), SHOWN), False)
        self.assertIs(shows_open(THREE_ROWS, OR, (0, 2), Program(OR, 3, OR_LINES)), False)
        for value in all_but([or_stock(), SHOWN]):
            self.assertIs(shows_open(THREE_ROWS, Stock(), (0, 2), value), False, repr(value))


class ShowsReachTest(unittest.TestCase):
    lot = (0, 1)
    pairs = WITH_OR.pairs()
    program = guard(WITH_OR, (0, 1))

    def test_guards(self):
        for sheet in drawn_sheets(40, seed=239):
            for lot, reach in sheet.pairs():
                told = shows_reach(sheet.rows(), sheet.stock, lot, reach, sheet.pairs(), guard(sheet, lot))
                self.assertIs(told, True)
        self.assertIs(shows_reach(program=self.program, pairs=tuple(self.pairs), reach=(0, 1), lot=self.lot, stock=OR,
                                  rows=THREE_ROWS), True)

    def test_each_single_thing_bent(self):
        rest = (self.pairs, self.program)
        for value in all_but([]):
            self.assertIs(shows_reach(THREE_ROWS, OR, self.lot, value, *rest), False, repr(value))
            self.assertIs(shows_reach(THREE_ROWS, OR, self.lot, (0, 1), value, self.program), False, repr(value))
            self.assertIs(shows_reach(THREE_ROWS, OR, self.lot, (0, 1), self.pairs, value), False, repr(value))
        for reach in ((0, 1, 2), [0, 1], (1, 0), (False, 1), (0, True)):
            self.assertIs(shows_reach(THREE_ROWS, OR, self.lot, reach, *rest), False)
        self.assertIs(shows_reach(THREE_ROWS, OR, (0,), (0, 1), *rest), False)
        self.assertIs(shows_reach(THREE_ROWS, OR, (0, 2), (0, 1), *rest), False)
        self.assertIs(shows_reach(THREE_ROWS, OR, self.lot, (0, 1), self.pairs[:3], self.program), False)
        self.assertIs(shows_reach(THREE_ROWS, OR, self.lot, (0, 1), self.pairs[::-1], self.program), False)
        whole = Program(OR, 2, [("sign", 0)])
        self.assertIs(shows_reach(THREE_ROWS, OR, self.lot, (0, 1), self.pairs, whole), False)
        self.assertIs(shows_reach(THREE_ROWS, Stock(), self.lot, (0, 1, 2), PLAIN.pairs(), whole), True)
        self.assertIs(shows_reach(THREE_ROWS, OR, self.lot, (0, 1, 2), PLAIN.pairs(), whole), False)
        ones = Program(OR, 2, [("sign", 1)])
        self.assertIs(shows_reach(THREE_ROWS, Stock(), self.lot, (0, 1, 2), PLAIN.pairs(), ones), False)
        self.assertIs(shows_reach(THREE_ROWS, Stock(), self.lot, (0, 1), self.pairs, self.program), False)


class ErrorsTest(unittest.TestCase):
    def check(self, expected, rows, stock, value):
        """Checks an error that comes ahead of those of columns and lots, or one that comes of them."""
        lot_error = ("InvalidLot", value) if expected == ("InvalidColumn",) else expected
        raised_is(self, raised(shows_column, rows, stock, value, None), expected)
        raised_is(self, raised(bars_column, rows, stock, value, None), expected)
        raised_is(self, raised(shows_open, rows, stock, value, None), lot_error)
        raised_is(self, raised(shows_reach, rows, stock, value, None, None, None), lot_error)

    def test_rows(self):
        for value in any_values():
            if not isinstance(value, (list, tuple)) or len(value) == 0:
                self.check(("InvalidRow", -1), value, OR, 5)
        for value in all_but([(0,), (1,), (None,)]):
            self.check(("InvalidRow", 1), [(0,), value], OR, 5)
        self.check(("TooMany", "rows", 8), [None] * 8, OR, 5)
        self.check(("TooMany", "inputs", 9), [(None,) * 9], OR, 5)

    def test_picks(self):
        many = Stock(Box("a", layer_table(4)))
        self.check(("TooMany", "picks", 5 ** 7), [()] * 7, many, 5)
        self.check(("InvalidColumn",), [()] * 6, many, 5)

    def test_columns_and_lots(self):
        for value in all_but([(0,), (1,)]):
            self.check(("InvalidColumn",), THREE_ROWS, OR, value)
        for value in ((0, 0), (0, 0, 2), (0, True, 0), [0, 0, 0]):
            self.assertEqual(raised(shows_column, THREE_ROWS, OR, value, 5), ("InvalidColumn",))
            self.assertEqual(raised(bars_column, THREE_ROWS, OR, value, 5), ("InvalidColumn",))
        for value in ((3,), (1, 0), (True,), (0, True), [0], (0, 0)):
            raised_is(self, raised(shows_open, THREE_ROWS, OR, value, 5), ("InvalidLot", value))
            raised_is(self, raised(shows_reach, THREE_ROWS, OR, value, 5, 5, 5), ("InvalidLot", value))
