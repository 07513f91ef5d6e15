import random
import unittest
from itertools import product

from neverboxes import everything
from neverboxes.asking import asking_pairs
from neverboxes.boxes import Box, Stock
from neverboxes.closed import is_closed
from neverboxes.everything import (
    THREE_ROWS, any_program, at_once_program, at_once_table, hang_together, makes_all, or_program, widest_pairs,
)
from neverboxes.programs import Program
from neverboxes.sheets import sheet_of
from neverboxes.tablemaking import makes
from neverboxes.tables import Table
from tests import definitions
from tests.definitions import and_table, gustave_table, layer_table, lots_of, sheet_by_columns, some_stock
from tests.samples import (
    all_but, any_values, do_fit, is_under, not_table, or_table, raised, raised_is, rows_of, some_table, yes_table,
)


def alone(table):
    return Stock(Box("x", table), signs=table.signs)


def both_signs(call):
    return [call(2), call(3)]


# Stocks that make all tables: by or, by and, by at once, by tables that answer at more rows, or turn signs.
ALL = [
    *both_signs(lambda signs: alone(or_table(signs))), *both_signs(lambda signs: alone(and_table(signs))),
    *both_signs(lambda signs: alone(at_once_table(signs))),
    alone(Table(2, [((None, 1), 2), ((1, None), 2), ((0, 0), 1)], signs=3)),
    # At 2 this one answers, where or hangs.
    alone(Table(2, [((None, 1), 0), ((1, None), 0), ((0, 0), 2), ((2, 0), 2), ((2, 2), 1), ((0, 2), 0)], signs=3)),
    Stock(Box("yes", yes_table()), Box("no", not_table()), Box("x", and_table()), Box("g", gustave_table()),
          Box("or", or_table())),
    alone(Table(3, [((1, None, 1), 0), ((None, 1, 1), 0), ((0, 0, None), 1)])),
]
# None of these makes all tables, those of one sign and those that asking makes among them.
LESS = [
    Stock(), Stock(signs=3), alone(gustave_table()), alone(not_table()), alone(Table(2, [])),
    alone(Table(2, [((None, 1), 1), ((1, None), 1)])), alone(Table(3, [((None, 0, 1), 1), ((0, 1, None), 0),
                                                                       ((1, None, 0), 0)])),
    Stock(Box("yes", yes_table()), Box("no", not_table())),
]


def chained(rows, lot):
    """Whether each row of a lot is reached from the first one, by joining all that fit again and again."""
    parts = [{row} for row in lot]
    for one, other in product(lot, repeat=2):
        if do_fit(rows[one], rows[other]):
            joined = [part for part in parts if one in part or other in part]
            parts = [part for part in parts if part not in joined] + [set().union(*joined)]
    return len(parts) == 1


class TablesTest(unittest.TestCase):
    def test_three_rows(self):
        self.assertEqual(THREE_ROWS, ((1, None), (None, 1), (0, 0)))
        self.assertIsInstance(THREE_ROWS, tuple)

    def test_or(self):
        for signs in (2, 3):
            table = everything.or_table(signs)
            self.assertEqual([table.inputs, table.signs], [2, signs])
            for row in rows_of(2, signs):
                expected = 1 if 1 in row else 0 if row == (0, 0) else None
                self.assertEqual(table(row), expected)
        self.assertEqual(everything.or_table(signs=2), or_table())

    def test_at_once(self):
        for signs in (2, 3):
            table = at_once_table(signs)
            self.assertEqual([table.inputs, table.signs], [3, signs])
            for test, then, other in rows_of(3, signs):
                expected = None
                for sign in range(signs):
                    if (test, then) == (1, sign) or (test, other) == (0, sign) or (then, other) == (sign, sign):
                        expected = sign
                self.assertEqual(table((test, then, other)), expected)
        self.assertEqual(at_once_table(signs=3), at_once_table(3))

    def test_signs(self):
        for value in all_but([2, 3]):
            raised_is(self, raised(everything.or_table, value), ("InvalidSigns", value))
            raised_is(self, raised(at_once_table, value), ("InvalidSigns", value))


class ProgramsTest(unittest.TestCase):
    def check(self, program, table, stock):
        self.assertIsInstance(program, Program)
        self.assertEqual([program.stock, program.inputs], [stock, table.inputs])
        self.assertEqual([program(row) for row in rows_of(table.inputs, table.signs)], table.all_values())

    def test_stocks_that_make_all_tables(self):
        for stock in ALL:
            self.assertIs(makes_all(stock=stock), True)
            self.check(or_program(stock=stock), or_table(stock.signs), stock)
            self.check(at_once_program(stock=stock), at_once_table(stock.signs), stock)
            self.assertIs(makes(stock, or_table(stock.signs)), True)

    def test_stocks_that_do_not(self):
        for stock in LESS:
            self.assertIs(makes_all(stock), False)
            for told in (raised(or_program, stock), raised(at_once_program, stock),
                         raised(any_program, Table(0, [], signs=stock.signs), stock)):
                self.assertEqual(told, ("NotAll",))
            self.assertIs(makes(stock, or_table(stock.signs)), False)

    def test_any_table(self):
        chance = random.Random(28)
        for stock in ALL:
            signs = stock.signs
            for at in range(25):
                table = some_table(chance, at % (6 if signs == 2 else 5), signs, chance.choice([2, 5, 12]))
                self.check(any_program(table=table, stock=stock), table, stock)

    def test_edges_of_any_table(self):
        for stock in ALL:
            signs = stock.signs
            most = 5 if signs == 2 else 4
            for table in (Table(0, [], signs=signs), Table(most, [], signs=signs), Table(0, [((), 1)], signs=signs),
                          Table(most, [((None,) * most, signs - 1)], signs=signs),
                          Table(most, [((None,) * (most - 1) + (sign,), sign) for sign in range(signs)], signs=signs),
                          or_table(signs), at_once_table(signs)):
                self.check(any_program(table, stock), table, stock)

    def test_tables_with_many_least_rows(self):
        parity = [(row, sum(row) % 2) for row in rows_of(5, 2) if None not in row]
        thirds = [(row, sum(row) % 3) for row in rows_of(4, 3) if None not in row]
        for stock in ALL:
            if stock.signs == 2:
                self.check(any_program(layer_table(80), stock), layer_table(80), stock)
                self.check(any_program(Table(5, parity), stock), Table(5, parity), stock)
            else:
                table = Table(4, thirds, signs=3)
                self.check(any_program(table, stock), table, stock)

    def test_equal_calls_make_equal_programs(self):
        for signs in (2, 3):
            stocks = [alone(or_table(signs)) for _ in range(2)]
            self.assertEqual(*[or_program(stock) for stock in stocks])
            self.assertEqual(*[at_once_program(stock) for stock in stocks])
            self.assertEqual(*[any_program(and_table(signs), stock) for stock in stocks])

    def test_drawn_stocks(self):
        chance = random.Random(281)
        seen = {True: 0, False: 0}
        while min(seen.values()) < 8:
            signs = chance.choice([2, 3])
            tables = [some_table(chance, 2, signs, 8) for _ in range(2)]
            stock = Stock(*[Box(name, table) for name, table in zip("ab", tables)], signs=signs)
            # All tables are made exactly if or is.
            expected = makes(stock, or_table(signs))
            self.assertIs(makes_all(stock), expected)
            if expected:
                self.check(or_program(stock), or_table(signs), stock)
                self.check(any_program(gustave_table() if signs == 2 else at_once_table(3), stock),
                           gustave_table() if signs == 2 else at_once_table(3), stock)
            seen[expected] += 1

    def test_picks(self):
        for many, fine in ((35, True), (36, False)):
            # All answer 1, so these boxes alone do not make all tables.
            stock = Stock(*alone(or_table()).boxes(), Box("w", layer_table(many)))
            calls = ((makes_all, stock), (or_program, stock), (at_once_program, stock),
                     (any_program, not_table(), stock))
            for call, *told in calls:
                self.assertEqual(raised(call, *told), None if fine else ("TooMany", "picks", 37 ** 3))
        wide = alone(layer_table(40))
        for told in (raised(makes_all, wide), raised(or_program, wide), raised(any_program, Table(1, []), wide)):
            self.assertEqual(told, ("TooMany", "picks", 41 ** 3))

    def test_mismatch(self):
        for stock in (ALL[0], LESS[0], alone(layer_table(40))):
            self.assertEqual(raised(any_program, or_table(3), stock), ("Mismatch",))
            for value in any_values():
                if not isinstance(value, Table):
                    self.assertEqual(raised(any_program, value, stock), ("Mismatch",))
        self.assertEqual(raised(any_program, or_table(), ALL[1]), ("Mismatch",))

    def test_each_box_is_made(self):
        chance = random.Random(282)
        for stock in ALL[:2]:
            for _ in range(10):
                table = some_table(chance, 2, stock.signs, 5)
                self.assertIs(makes(stock, table), True)


class HangTogetherTest(unittest.TestCase):
    def test_examples(self):
        # Row 0 fits row 1, row 1 fits row 2; the rows 0 and 2 hang together by it alone.
        rows = [(0, None), (None, 0), (1, 0), (1, 1)]
        for lot, expected in (((0,), True), ((0, 1), True), ((0, 2), False), ((0, 1, 2), True), ((1, 2), True),
                              ((2, 3), False), ((0, 1, 2, 3), False)):
            self.assertIs(hang_together(rows, lot), expected)
            self.assertIs(hang_together(lot=lot, rows=tuple(rows)), expected)
        self.assertIs(hang_together(THREE_ROWS, (0, 1, 2)), False)
        self.assertIs(hang_together(THREE_ROWS, (0, 1)), True)

    def test_long_chains(self):
        rows = [tuple(at % 2 if at in (place, place + 1) else None for at in range(8)) for place in range(7)]
        self.assertIs(hang_together(rows, (0, 1, 2, 3, 4, 5, 6)), True)
        # Each row fits only its neighbours in this order of theirs: 3, 0, 5, 1, 6, 2, 4.
        order = [3, 0, 5, 1, 6, 2, 4]
        rows = [None] * 7
        for at, number in enumerate(order):
            rows[number] = tuple(None if at == other else int(at > other) for other in range(7))
        for lot in lots_of(7):
            self.assertIs(hang_together(rows, lot), chained(rows, lot))
        self.assertIs(hang_together(rows, tuple(range(7))), True)
        self.assertIs(hang_together(rows, (0, 1, 2, 3, 4, 6)), False)

    def test_drawn_rows(self):
        chance = random.Random(29)
        for _ in range(60):
            signs, inputs = chance.choice([2, 3]), chance.randrange(4)
            rows = [chance.choice(rows_of(inputs, signs)) for _ in range(chance.randint(1, 5))]
            for lot in lots_of(len(rows)):
                self.assertIs(hang_together(rows, lot), chained(rows, lot))

    def test_lots(self):
        rows = [(0,), (1,)]
        for value in all_but([(0,), (1,)]):
            raised_is(self, raised(hang_together, rows, value), ("UnknownLot", value))
        for value in ((0, 2), (1, 0), [0, 1], (0, 0), (0, True)):
            self.assertEqual(raised(hang_together, rows, value), ("UnknownLot", value))


class WidestPairsTest(unittest.TestCase):
    def test_pairs(self):
        expected = [((0,), (0,)), ((1,), (1,)), ((2,), (2,)), ((0, 1), (0, 1))]
        self.assertEqual(widest_pairs(THREE_ROWS, 2), expected)
        self.assertEqual(widest_pairs(signs=2, rows=list(THREE_ROWS)), expected)
        self.assertEqual(widest_pairs([()], 3), [((0,), (0,))])
        rows = [(None, None), (0, None), (None, 1), (0, 1)]
        self.assertEqual(widest_pairs(rows, 2)[:4],
                         [((0,), (0, 1, 2, 3)), ((1,), (1, 3)), ((2,), (2, 3)), ((3,), (3,))])

    def test_sheets_of_stocks_that_make_all_tables(self):
        chance = random.Random(291)
        for stock in ALL:
            for _ in range(12):
                count, inputs = chance.randint(1, 4), chance.randrange(4)
                rows = [chance.choice(rows_of(inputs, stock.signs)) for _ in range(count)]
                if raised(sheet_of, rows, stock) is None:
                    told = list(rows)
                    self.assertEqual(widest_pairs(rows, stock.signs), sheet_of(rows, stock).pairs())
                    self.assertEqual(rows, told)

    def test_columns_of_all_tables(self):
        # Each column of a table is one of a stock that makes all tables, and there are no others.
        chance = random.Random(292)
        for _ in range(6):
            rows = [chance.choice(rows_of(2, 2)) for _ in range(4)]
            columns = definitions.columns_of_stock(rows, ALL[0])
            self.assertEqual(widest_pairs(rows, 2), sheet_by_columns(4, columns))

    def test_closed_for_each_stock(self):
        chance = random.Random(293)
        for _ in range(40):
            signs = chance.choice([2, 3])
            stock = some_stock(chance, signs)
            rows = [chance.choice(rows_of(2, signs)) for _ in range(chance.randint(1, 4))]
            if raised(sheet_of, rows, stock) is None:
                self.assertIs(is_closed(rows, stock, widest_pairs(rows, signs)), True)
                self.assertIs(is_closed(rows, stock, sheet_of(rows, stock).pairs()), True)

    def test_boxes_of_one_sign_open_no_lot(self):
        # A box that answers one sign alone has outcomes that are alike on their lots: they cut, and strike nothing.
        chance = random.Random(294)
        cut = 0
        for _ in range(40):
            table = some_table(chance, 3, 2, 6)
            sign = chance.choice([0, 1])
            one_sign = Table(3, [(row, sign) for row, _ in table.least])
            rows = [chance.choice([row for row, _ in one_sign.least] + one_sign.hangs) for _ in range(4)]
            pairs = sheet_of(rows, alone(one_sign)).pairs()
            self.assertEqual([lot for lot, _ in pairs], [lot for lot, _ in asking_pairs(rows, 2)])
            cut += pairs != asking_pairs(rows, 2)
            self.assertIs(makes_all(alone(one_sign)), False)
        self.assertGreater(cut, 0)

    def test_errors(self):
        for value in all_but([2, 3]):
            raised_is(self, raised(widest_pairs, None, value), ("InvalidSigns", value))
        for value in [value for value in any_values() if not isinstance(value, (list, tuple))]:
            raised_is(self, raised(widest_pairs, value, 2), ("InvalidRow", -1))
        for rows, expected in (([], ("InvalidRow", -1)), ([()] * 8, ("TooMany", "rows", 8)),
                               ([5] * 8, ("TooMany", "rows", 8)), ([(0,), (0, 1)], ("InvalidRow", 1)),
                               ([(0,), (2,)], ("InvalidRow", 1)), ([(True,)], ("InvalidRow", 0)),
                               ([[0]], ("InvalidRow", 0)), ([(0,) * 9] * 2, ("TooMany", "inputs", 9)),
                               ([(0,) * 9, (5,) * 9], ("InvalidRow", 1))):
            self.assertEqual(raised(widest_pairs, rows, 2), expected)
        self.assertEqual(widest_pairs([(2,)], 3), [((0,), (0,))])
        self.assertEqual(len(widest_pairs([(None,) * 8] * 7, 2)), 127)
