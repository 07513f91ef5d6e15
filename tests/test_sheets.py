import random
import unittest

from neverboxes.asking import asking_pairs
from neverboxes.boxes import Box, Stock
from neverboxes.closed import fault
from neverboxes.lots import thinned
from neverboxes.sheets import Sheet, sheet_of, strikes
from neverboxes.tables import Table
from tests.definitions import (
    THREE_ROWS, and_table, break_of, columns_of_stock, does_keep, effect_by_definition, gustave_table, layer_table,
    lots_of, picks_of, sheet_by_columns, some_column, some_stock, steps_by_definition, telling_case,
)
from tests.samples import (
    all_but, any_values, is_under, not_table, or_stock, or_table, raised, raised_is, rows_of, some_cases, some_table,
    yes_table,
)

OR = Stock(Box("or", or_table()))
SHEET = [((0,), (0,)), ((1,), (1,)), ((2,), (2,)), ((0, 1), (0, 1))]
FIVE = Stock(Box("or", or_table()), Box("and", and_table()), Box("no", not_table()), Box("yes", yes_table()),
             Box("never", Table(2, [])))


def some_rows(chance, inputs, signs, count):
    return [row for row, _ in some_cases(chance, inputs, signs, count)]


def drawn_lists(many, seed=19, most=3):
    """Pairs (rows, stock) with few columns, so that these can be listed."""
    chance = random.Random(seed)
    for at in range(many):
        signs = chance.choice([2, 2, 3])
        count = chance.randint(1, most if signs == 2 else max(2, most - 1))
        if at % 3:
            stock, rows = telling_case(chance, signs, count)
            yield rows, stock
        else:
            yield some_rows(chance, at % 5, signs, count), some_stock(chance, signs)


def done_by(pairs, blows):
    """The list of pairs that strikes and cuts leave."""
    left = dict(pairs)
    for lot, _, _, reach in blows:
        left[lot] = reach
        if reach is None:
            del left[lot]
    return list(left.items())


class SheetTest(unittest.TestCase):
    def test_example_of_the_document(self):
        with_or = sheet_of(THREE_ROWS, OR)
        self.assertEqual([with_or.pairs(), with_or.open_lots(), with_or.number()],
                         [SHEET, [(0, 2), (1, 2), (0, 1, 2)], 21])
        self.assertEqual(sheet_of(THREE_ROWS, Stock()).number(), 17)
        self.assertIsInstance(with_or, Sheet)

    def test_told(self):
        sheet = sheet_of(stock=OR, rows=tuple(THREE_ROWS))
        self.assertEqual([sheet.stock, sheet.rows(), len(sheet)], [OR, THREE_ROWS, 4])
        self.assertEqual(repr(sheet), "Sheet(3 rows, 4 pairs)")
        self.assertEqual(repr(sheet_of([()], Stock())), "Sheet(1 rows, 1 pairs)")

    def test_reach(self):
        sheet = sheet_of(THREE_ROWS, OR)
        for lot, reach in SHEET:
            self.assertEqual([sheet.reach(lot), sheet.reach(lot=lot), sheet[lot]], [reach] * 3)
            self.assertIs(lot in sheet, True)
        for value in [*all_but([(0,), (1,)]), *sheet.open_lots(), (1, 0), (True,), (False,), (False, 1), (0, 0), (3,)]:
            for call in (sheet.reach, sheet.__getitem__):
                told = raised(call, value)
                raised_is(self, told, ("UnknownLot", value))
            self.assertIs(value in sheet, False, repr(value))

    def test_agrees_with_the_columns_of_the_stock(self):
        for rows, stock in drawn_lists(60):
            columns = columns_of_stock(rows, stock)
            before = list(rows)
            sheet = sheet_of(rows, stock)
            count = len(rows)
            self.assertEqual(sheet.pairs(), sheet_by_columns(count, columns), (rows, stock.boxes()))
            self.assertEqual(sheet.open_lots(), [lot for lot in lots_of(count) if lot not in dict(sheet.pairs())])
            self.assertEqual([sheet.number(), len(sheet)], [len(columns), len(sheet.pairs())])
            every = rows_of(count, stock.signs)
            self.assertEqual(list(sheet.every_column()), [column for column in every if column in columns])
            self.assertEqual([sheet.keeps(column) for column in every], [column in columns for column in every])
            self.assertEqual(rows, before)

    def test_columns(self):
        chance = random.Random(15)
        for rows, stock in drawn_lists(40, most=5):
            sheet = sheet_of(rows, stock)
            for _ in range(10):
                column = some_column(chance, len(rows), stock.signs)
                self.assertIs(sheet.keeps(column), does_keep(column, sheet.pairs()))
                self.assertEqual(sheet.broken(column), break_of(column, sheet.pairs()))
                told = steps_by_definition(sheet.pairs(), column)
                if len(told) == 3:
                    raised_is(self, raised(sheet.filling, column), ("Clash", *told))
                    raised_is(self, raised(sheet.steps, column), ("Clash", *told))
                else:
                    self.assertEqual((sheet.filling(column), sheet.steps(column=column)), told)

    def test_wrong_columns(self):
        sheet = sheet_of(THREE_ROWS, OR)
        wrong = [(0, 0), (0, 0, 0, 0), [0, 0, 0], (0, 0, 2), (0, 0, True), (0, 0, -1), (0, 0, "1")]
        for value in [*any_values(), *wrong]:
            for call in (sheet.keeps, sheet.broken, sheet.filling, sheet.steps):
                self.assertEqual(raised(call, value), ("InvalidColumn",), repr(value))
        self.assertEqual(raised(sheet.filling, (1, 1, 0)), None)
        self.assertEqual(raised(sheet_of(THREE_ROWS, Stock()).filling, (1, 1, 0)), ("Clash", (0, 1), 0, 2))
        self.assertEqual(sheet_of([()], Stock(signs=3)).broken((2,)), None)

    def test_equal(self):
        one = sheet_of(THREE_ROWS, OR)
        self.assertEqual(one, sheet_of(tuple(THREE_ROWS), Stock(Box("other", or_table()))))
        self.assertEqual(one, sheet_of(THREE_ROWS, Stock(Box("or", or_table()), Box("yes", yes_table()))))
        self.assertNotEqual(one, sheet_of(THREE_ROWS, Stock()))
        self.assertNotEqual(one, sheet_of([(1, None), (None, 1), (0, 0)][::-1], OR))
        self.assertNotEqual(sheet_of([(0,)], Stock()), sheet_of([(1,)], Stock()))
        self.assertNotEqual(sheet_of([(0,)], Stock()), sheet_of([(0,)], Stock(signs=3)))
        for value in all_but([]):
            self.assertIs(one == value, False)
            self.assertIs(value == one, False)
        self.assertIs(one == SHEET, False)

    def test_copies(self):
        rows = list(THREE_ROWS)
        sheet = sheet_of(rows, OR)
        rows.clear()
        for told in (sheet.rows(), sheet.pairs(), sheet.open_lots(), sheet.steps((1, 1, None)),
                     list(sheet.every_column())):
            told.append(5)
            told.reverse()
        self.assertEqual([sheet.rows(), sheet.pairs(), len(sheet.open_lots())], [THREE_ROWS, SHEET, 3])
        self.assertEqual(sheet.number(), 21)

    def test_a_generator_that_is_left(self):
        sheet = sheet_of(THREE_ROWS, OR)
        columns = sheet.every_column()
        self.assertEqual([next(columns), next(columns)], [(None, None, None), (None, None, 0)])
        self.assertEqual(len(list(sheet.every_column())), 21)
        self.assertEqual(len(list(columns)), 19)
        self.assertEqual(sheet, sheet_of(THREE_ROWS, OR))


class EdgesTest(unittest.TestCase):
    def test_one_row(self):
        for signs in (2, 3):
            for row in ((), (0,), (None,) * 8, (1, None)):
                sheet = sheet_of([row], Stock(signs=signs))
                self.assertEqual([sheet.pairs(), sheet.open_lots()], [[((0,), (0,))], []])
                self.assertEqual(sheet.number(), 1 + signs)

    def test_rows_that_nothing_tells_apart(self):
        for row in ((), (None,) * 8, (0, 1)):
            sheet = sheet_of([row] * 7, FIVE)
            self.assertEqual(sheet.pairs(), [(lot, tuple(range(7))) for lot in lots_of(7)])
            self.assertEqual(list(sheet.every_column()), [(value,) * 7 for value in (None, 0, 1)])

    def test_seven_rows_that_are_told_apart(self):
        rows = [tuple((number >> at) & 1 for at in range(8)) for number in range(7)]
        for stock in (Stock(), FIVE):
            sheet = sheet_of(rows, stock)
            self.assertEqual(sheet.pairs(), [((row,), (row,)) for row in range(7)])
            self.assertEqual(sheet.number(), 3 ** 7)

    def test_five_boxes(self):
        self.assertEqual(sheet_of(THREE_ROWS, FIVE), sheet_of(THREE_ROWS, OR))

    def test_seven_rows_and_all_tables(self):
        rows = [(1, None, None), (None, 1, None), (None, None, 1), (0, 0, None), (None, 0, 0), (0, None, 0), (0, 0, 0)]
        sheet = sheet_of(rows, OR)
        self.assertIs(fault(rows, OR, sheet.pairs()), None)
        # With or all tables can be made, so what [29] says holds.
        for lot in lots_of(7):
            self.assertIs(lot in sheet, do_hang_together(rows, lot), lot)
        for lot, reach in sheet.pairs():
            above = [at for at, row in enumerate(rows) if any(is_under(rows[other], row) for other in lot)]
            self.assertEqual(reach, tuple(above))

    def test_a_box_between_asking_and_or(self):
        rows = [(0, 1, None), (1, None, 0), (None, 0, 1)]
        stock = Stock(Box("g", gustave_table()))
        self.assertEqual([(0, 1, 2) in sheet_of(rows, Stock()), (0, 1, 2) in sheet_of(rows, stock)], [True, True])
        self.assertEqual(sheet_of(rows, stock).reach((0, 1, 2)), (0, 1, 2))
        self.assertEqual(sheet_of(rows + [(0, 0, 0)], Stock()).reach((0, 1, 2)), (0, 1, 2, 3))
        self.assertEqual(sheet_of(rows + [(0, 0, 0)], stock).reach((0, 1, 2)), (0, 1, 2))
        self.assertIn((0, 1, 2, 3), sheet_of(rows + [(0, 0, 0)], stock).pairs()[-1])
        self.assertEqual(sheet_of(THREE_ROWS, stock), sheet_of(THREE_ROWS, Stock()))

    def test_equal_calls_tell_equal_things(self):
        for rows, stock in drawn_lists(10, seed=5, most=5):
            self.assertEqual(sheet_of(rows, stock), sheet_of(rows, stock))
            self.assertEqual(list(strikes(rows, stock)), list(strikes(tuple(rows), stock)))


def do_hang_together(rows, lot):
    """Whether chains of fitting rows lead to all rows of a lot."""
    reached = {lot[0]}
    while True:
        more = {row for row in lot for other in reached
                if all(v is None or w is None or v == w for v, w in zip(rows[row], rows[other]))}
        if more <= reached:
            return reached == set(lot)
        reached |= more


class StrikesTest(unittest.TestCase):
    def test_they_lead_to_the_sheet(self):
        done = {"strike": 0, "cut": 0}
        for rows, stock in drawn_lists(80, seed=3, most=4):
            left = asking_pairs(rows, stock.signs)
            for lot, name, pick, reach in strikes(rows, stock):
                told = effect_by_definition(len(rows), left, lot, stock.box(name), pick)
                self.assertEqual(told, ("strike", ()) if reach is None else ("cut", reach))
                done[told[0]] += 1
                left = done_by(left, [(lot, name, pick, reach)])
            self.assertEqual(left, sheet_of(rows, stock).pairs())
        self.assertGreater(min(done.values()), 10)

    def test_any_order_of_work_ends_in_the_sheet(self):
        chance = random.Random(191)
        for rows, stock in drawn_lists(30, seed=4, most=4):
            left = asking_pairs(rows, stock.signs)
            found = True
            while found:
                work = [(lot, box, pick) for lot, _ in left for box in stock.boxes() for pick in picks_of(lot, box)]
                chance.shuffle(work)
                found = False
                for lot, box, pick in work:
                    if lot in dict(left):
                        word, reach = effect_by_definition(len(rows), left, lot, box, pick)
                        if word != "none":
                            left = done_by(left, [(lot, box.name, pick, reach if word == "cut" else None)])
                            found = True
            self.assertEqual(left, sheet_of(rows, stock).pairs())

    def test_without_boxes_there_are_none(self):
        self.assertEqual(list(strikes(THREE_ROWS, Stock())), [])
        self.assertEqual(list(strikes(stock=or_stock(3), rows=[(2,)])), [])

    def test_kinds(self):
        for lot, name, pick, left in strikes(THREE_ROWS, OR):
            self.assertEqual([type(lot), type(name), type(pick)], [tuple, str, tuple])
            self.assertIn(type(left), (tuple, type(None)))

    def test_a_generator_that_is_left(self):
        whole = list(strikes(THREE_ROWS, OR))
        started = strikes(THREE_ROWS, OR)
        self.assertEqual(next(started), whole[0])
        self.assertEqual(list(strikes(THREE_ROWS, OR)), whole)
        rows = list(THREE_ROWS)
        started = strikes(rows, OR)
        first = next(started)
        rows.clear()
        self.assertEqual([first, *started], whole)


class ErrorsTest(unittest.TestCase):
    def check(self, expected, rows, stock):
        raised_is(self, raised(sheet_of, rows, stock), expected)
        # The call alone raises nothing: a generator raises its errors when its first item is requested.
        generator = strikes(rows, stock)
        raised_is(self, raised(next, generator), expected)

    def test_rows(self):
        for value in any_values():
            if not isinstance(value, (list, tuple)) or len(value) == 0:
                self.check(("InvalidRow", -1), value, OR)
        for value in all_but([(0,), (1,), (None,)]):
            self.check(("InvalidRow", 1), [(0,), value, 5], OR)
        for value in all_but([(), (0,), (1,), (None,)]):
            self.check(("InvalidRow", 0), [value], OR)
        self.check(("InvalidRow", 1), [(0,), (0, 1)], OR)
        self.check(("InvalidRow", 0), [(2,)], OR)
        self.check(("TooMany", "rows", 8), [(0,)] * 8, OR)
        self.check(("TooMany", "inputs", 9), [(0,) * 9], OR)

    def test_picks(self):
        many = Stock(Box("a", or_table()), Box("b", layer_table(4)), Box("c", layer_table(7)))
        self.check(("TooMany", "picks", 5 ** 7), [()] * 7, many)
        self.check(("TooMany", "picks", 8 ** 6), [()] * 6, many)
        self.assertEqual(len(sheet_of([()] * 5, many)), 31)

    def test_order(self):
        many = Stock(Box("b", layer_table(40)))
        self.check(("TooMany", "rows", 8), [(0,) * 9, 5] * 4, many)
        self.check(("InvalidRow", 1), [(0,) * 9, 5] * 3, many)
        self.check(("TooMany", "inputs", 9), [(0,) * 9] * 7, many)
        self.check(("TooMany", "picks", 41 ** 7), [(0,) * 8] * 7, many)


class FactsTest(unittest.TestCase):
    """The facts of [21]."""

    def test_rows_left_out(self):
        for rows, stock in drawn_lists(40, seed=21, most=6):
            sheet = sheet_of(rows, stock)
            kept = list(range(len(rows)))[::2]
            places = {row: at for at, row in enumerate(kept)}
            expected = []
            for lot, reach in sheet.pairs():
                if set(lot) <= set(kept):
                    expected.append((tuple(places[row] for row in lot),
                                     tuple(places[row] for row in reach if row in places)))
            self.assertEqual(sheet_of([rows[row] for row in kept], stock).pairs(), expected)

    def test_rows_above_and_thinned_lots(self):
        for rows, stock in drawn_lists(40, seed=22, most=6):
            sheet = sheet_of(rows, stock)
            for lot in lots_of(len(rows)):
                thin = thinned(rows, lot)
                self.assertIs(lot in sheet, thin in sheet)
                if lot in sheet:
                    above = {at for at, row in enumerate(rows) if any(is_under(rows[other], row) for other in lot)}
                    self.assertLessEqual(above, set(sheet[lot]))
                    self.assertEqual(sheet[lot], sheet[thin])

    def test_inputs_in_another_order(self):
        chance = random.Random(23)
        for rows, stock in drawn_lists(40, seed=23, most=6):
            order = list(range(len(rows[0])))
            chance.shuffle(order)
            moved = [tuple(row[at] for at in order) for row in rows]
            self.assertEqual(sheet_of(moved, stock).pairs(), sheet_of(rows, stock).pairs())

    def test_signs_exchanged(self):
        for rows, stock in drawn_lists(40, seed=24, most=6):
            order = {None: None, **dict(enumerate((1, 0) if stock.signs == 2 else (1, 2, 0)))}
            exchanged = [tuple(value if at else order[value] for at, value in enumerate(row)) for row in rows]
            self.assertEqual(sheet_of(exchanged, stock).pairs(), sheet_of(rows, stock).pairs())

    def test_inputs_that_add_nothing(self):
        chance = random.Random(25)
        for rows, stock in drawn_lists(40, seed=25, most=5):
            sheet = sheet_of(rows, stock)
            column = chance.choice(list(sheet.every_column()))
            for told in ((None,) * 7, (1,) * 7, column):
                more = [row + (value,) for row, value in zip(rows, told)]
                self.assertEqual(sheet_of(more, stock).pairs(), sheet.pairs())

    def test_a_column_that_is_none_adds_something(self):
        rows = [row + (value,) for row, value in zip(THREE_ROWS, (1, 1, 0))]
        self.assertNotEqual(sheet_of(rows, Stock()).pairs(), sheet_of(THREE_ROWS, Stock()).pairs())
        self.assertEqual(sheet_of(rows, OR).pairs(), SHEET)

    def test_drawn_boxes_of_three_inputs(self):
        chance = random.Random(26)
        for at in range(12):
            signs = 2 + at % 2
            stock = Stock(*[Box(name, some_table(chance, 3, signs, 3)) for name in "abcde"], signs=signs)
            rows = some_rows(chance, 4, signs, 5)
            if raised(sheet_of, rows, stock) is None:
                self.assertIs(fault(rows, stock, sheet_of(rows, stock).pairs()), None)
