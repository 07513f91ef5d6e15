import random
import unittest
from itertools import permutations

from neverboxes.boxes import Box, Stock
from neverboxes.led import left_out, made_rows, reordered, rewired, row_added, signs_exchanged
from neverboxes.programs import Program
from neverboxes.sheets import Sheet, sheet_of
from tests.definitions import THREE_ROWS, and_table, layer_table, some_stock
from tests.samples import all_but, any_values, or_stock, or_table, raised, raised_is, rows_of, some_lines

OR = Stock(Box("or", or_table()))


def or_sheet():
    return sheet_of(THREE_ROWS, OR)


def drawn_sheets(seed, many):
    """Drawn sheets, of seven rows at first, then of up to four."""
    chance = random.Random(seed)
    for signs in (2, 3):
        stock = Stock(Box("x", chance.choice([or_table(signs), and_table(signs)])), signs=signs)
        for inputs in (2, 8):
            row = [chance.choice([None, *range(signs)]) for _ in range(inputs)]
            rows = [tuple(chance.choice([None, value]) for value in row) for _ in range(4)]
            rows.extend(chance.choice(rows_of(2, signs)) * (inputs // 2) for _ in range(3))
            yield chance, sheet_of(rows, stock)
    for _ in range(many):
        signs = chance.choice([2, 3])
        stock = some_stock(chance, signs)
        inputs = chance.randrange(4)
        rows = [chance.choice(rows_of(inputs, signs)) for _ in range(chance.randint(1, 4))]
        if raised(sheet_of, rows, stock) is None:
            yield chance, sheet_of(rows, stock)


class LedTest(unittest.TestCase):
    def check(self, told, rows, stock):
        self.assertIsInstance(told, Sheet)
        self.assertEqual(told.rows(), rows)
        self.assertEqual(told.stock, stock)
        self.assertEqual(told, sheet_of(rows, stock))

    def test_left_out(self):
        sheet = or_sheet()
        self.check(left_out(sheet, [1]), [(1, None), (0, 0)], OR)
        self.check(left_out(numbers=(2, 0), sheet=sheet), [(None, 1)], OR)
        self.check(left_out(sheet, []), list(THREE_ROWS), OR)
        self.assertEqual(left_out(sheet, ()), sheet)
        for value in any_values():
            if value not in ([], [0], (), (0,), (1,)):
                self.assertEqual(raised(left_out, sheet, value), ("InvalidPlaces",), repr(value))
        for value in ([True], [0, 0], [0, 1, 2], [3], [-1], (1, 2, 1), [0, None], "01", {0: 1}):
            self.assertEqual(raised(left_out, sheet, value), ("InvalidPlaces",))
        self.assertEqual(raised(left_out, sheet_of([()], Stock()), [0]), ("InvalidPlaces",))

    def test_reaches_lose_the_rows_that_are_left_out(self):
        for chance, sheet in drawn_sheets(21, 40):
            count = len(sheet.rows())
            numbers = chance.sample(range(count), chance.randrange(count))
            told = left_out(sheet, numbers)
            kept = [row for row in range(count) if row not in numbers]
            pairs = [(lot, reach) for lot, reach in sheet.pairs() if not set(lot) & set(numbers)]
            expected = [(tuple(kept.index(row) for row in lot),
                         tuple(kept.index(row) for row in reach if row in kept)) for lot, reach in pairs]
            self.assertEqual(told.pairs(), expected)

    def test_row_added(self):
        self.check(row_added(or_sheet(), (1, 1)), [*THREE_ROWS, (1, 1)], OR)
        self.check(row_added(row=(), sheet=sheet_of([()], Stock(signs=3))), [(), ()], Stock(signs=3))
        for value in any_values():
            raised_is(self, raised(row_added, or_sheet(), value), ("InvalidRow", 0))
        for value in ((0, 2), (0, True), [0, 1], (0, 1, 1)):
            self.assertEqual(raised(row_added, or_sheet(), value), ("InvalidRow", 0))
        self.assertEqual(row_added(sheet_of([(2,)], Stock(signs=3)), (2,)).rows(), [(2,), (2,)])
        self.assertEqual(row_added(sheet_of([(0,)], OR), (1,)).pairs(), [((0,), (0,)), ((1,), (1,))])

    def test_row_added_to_many(self):
        full = sheet_of([(0,)] * 7, Stock())
        self.assertEqual(raised(row_added, full, (0,)), ("TooMany", "rows", 8))
        self.assertEqual(raised(row_added, full, (0, 0)), ("InvalidRow", 0))
        self.assertEqual(len(row_added(sheet_of([(0,)] * 6, Stock()), (1,)).rows()), 7)
        wide = sheet_of([(0,)] * 3, Stock(Box("or", or_table()), Box("w", layer_table(35))))
        self.assertEqual(raised(row_added, wide, (0,)), ("TooMany", "picks", 36 ** 4))
        self.assertEqual(raised(row_added, wide, 5), ("InvalidRow", 0))

    def test_reordered(self):
        sheet = or_sheet()
        for order in permutations(range(3)):
            self.check(reordered(sheet, order), [THREE_ROWS[at] for at in order], OR)
        self.assertEqual(reordered(order=[0, 1, 2], sheet=sheet), sheet)
        self.check(reordered(sheet_of([()], Stock()), [0]), [()], Stock())
        for value in any_values():
            self.assertEqual(raised(reordered, sheet, value), ("InvalidOrder",), repr(value))
        for value in ([0, 1], [0, 1, 1], [0, 1, 3], [0, True, 2], [2, 1, 0, 0], "012", {0: 0, 1: 1, 2: 2}):
            self.assertEqual(raised(reordered, sheet, value), ("InvalidOrder",))

    def test_reordered_pairs(self):
        for chance, sheet in drawn_sheets(211, 30):
            order = chance.sample(range(len(sheet.rows())), len(sheet.rows()))
            told = {lot: reach for lot, reach in reordered(sheet, order).pairs()}
            for lot, reach in sheet.pairs():
                moved = tuple(sorted(order.index(row) for row in lot))
                self.assertEqual(told.pop(moved), tuple(sorted(order.index(row) for row in reach)))
            self.assertEqual(told, {})

    def test_rewired(self):
        sheet = or_sheet()
        self.check(rewired(sheet, [1, 0]), [(None, 1), (1, None), (0, 0)], OR)
        self.check(rewired(places=(1, 1, 0), sheet=sheet), [(None, None, 1), (1, 1, None), (0, 0, 0)], OR)
        self.check(rewired(sheet, []), [(), (), ()], OR)
        self.check(rewired(sheet, [0] * 8), [(1,) * 8, (None,) * 8, (0,) * 8], OR)
        self.assertEqual(rewired(sheet, [1, 0]).pairs(), sheet.pairs())
        for value in any_values():
            if value not in ([], [0], (), (0,), (1,)):
                self.assertEqual(raised(rewired, sheet, value), ("InvalidPlaces",), repr(value))
        for value in ([2], [-1], [0, True], [0] * 9, "01", [None], {0: 0}):
            self.assertEqual(raised(rewired, sheet, value), ("InvalidPlaces",))
        empty = sheet_of([(), ()], Stock())
        self.assertEqual([raised(rewired, empty, [0]), rewired(empty, [])], [("InvalidPlaces",), empty])

    def test_signs_exchanged(self):
        sheet = or_sheet()
        self.check(signs_exchanged(sheet, 0, [1, 0]), [(0, None), (None, 1), (1, 0)], OR)
        self.check(signs_exchanged(order=(0, 1), at=1, sheet=sheet), list(THREE_ROWS), OR)
        stock = or_stock(3)
        rows = [(0,), (1,), (2,), (None,)]
        self.check(signs_exchanged(sheet_of(rows, stock), 0, (1, 2, 0)), [(1,), (2,), (0,), (None,)], stock)
        for value in all_but([0, 1]):
            raised_is(self, raised(signs_exchanged, sheet, value, None), ("InvalidNumber", value))
        for value in any_values():
            self.assertEqual(raised(signs_exchanged, sheet, 1, value), ("InvalidOrder",), repr(value))
        for value in ([0], [0, 0], [0, 1, 2], [1, 2], [0, True], "01"):
            self.assertEqual(raised(signs_exchanged, sheet, 1, value), ("InvalidOrder",))
        self.assertEqual(raised(signs_exchanged, sheet_of(rows, stock), 0, [0, 1]), ("InvalidOrder",))
        self.assertEqual(raised(signs_exchanged, sheet_of([()], Stock()), 0, [0, 1]), ("InvalidNumber", 0))

    def test_facts_about_inputs(self):
        # Neither another order of the inputs nor other signs of an input change the pairs.
        for chance, sheet in drawn_sheets(212, 30):
            inputs, signs = len(sheet.rows()[0]), sheet.stock.signs
            places = chance.sample(range(inputs), inputs)
            self.assertEqual(rewired(sheet, places).pairs(), sheet.pairs())
            doubled = [*places, *places[:8 - inputs]]
            self.assertEqual(rewired(sheet, doubled).pairs(), sheet.pairs())
            if inputs > 0:
                order = chance.sample(range(signs), signs)
                self.assertEqual(signs_exchanged(sheet, chance.randrange(inputs), order).pairs(), sheet.pairs())

    def test_sheets_stay_as_they_are(self):
        sheet = or_sheet()
        numbers, places, order = [0], [1, 1], [2, 0, 1]
        for told in (left_out(sheet, numbers), rewired(sheet, places), reordered(sheet, order),
                     row_added(sheet, (1, 1)), signs_exchanged(sheet, 0, [1, 0])):
            told.rows().clear()
            self.assertGreater(len(told.rows()), 0)
        self.assertEqual([numbers, places, order, sheet], [[0], [1, 1], [2, 0, 1], or_sheet()])


class MadeRowsTest(unittest.TestCase):
    def test_rows(self):
        rows = [(1, None), (None, 1), (0, 0), (0, None)]
        either = Program(OR, 2, [("input", 0), ("input", 1), ("box", "or", 0, 1)])
        first = Program(Stock(), 2, [("input", 0)])
        self.assertEqual(made_rows(rows, [either, first]), [(1, 1), (1, None), (0, 0), (None, 0)])
        self.assertEqual(made_rows(programs=(first,), rows=tuple(rows)), [(1,), (None,), (0,), (0,)])
        self.assertEqual(made_rows(rows, []), [()] * 4)
        self.assertEqual(made_rows(rows, [either] * 8)[2], (0,) * 8)
        self.assertEqual(made_rows([()], [Program(Stock(), 0, [("sign", 1)])]), [(1,)])

    def test_lists_of_more_than_seven_rows(self):
        rows = rows_of(3, 2)
        program = Program(Stock(), 3, [("input", 0), ("input", 1), ("input", 2), ("ask", 0, 1, 2)])
        self.assertEqual(made_rows(rows, [program]), [(program(row),) for row in rows])
        self.assertEqual(len(made_rows([(0,) * 8] * 300, [])), 300)

    def test_forced_lots_stay_forced(self):
        for chance, sheet in drawn_sheets(35, 40):
            rows, stock = sheet.rows(), sheet.stock
            inputs = len(rows[0])
            programs = [Program(stock, inputs, some_lines(chance, stock, inputs, inputs + 4))
                        for _ in range(chance.randint(0, 3))]
            made = made_rows(rows, programs)
            self.assertEqual(made, [tuple(program(row) for program in programs) for row in rows])
            told = sheet_of(made, stock)
            for lot, reach in sheet.pairs():
                self.assertLessEqual(set(reach), set(told.reach(lot)))

    def test_programs(self):
        rows = [(0, 1), (1, 1)]
        program = Program(Stock(), 2, [("never",)])
        for value in any_values():
            if not isinstance(value, (list, tuple)):
                raised_is(self, raised(made_rows, rows, value), ("InvalidPrograms", -1))
            if not isinstance(value, Program):
                raised_is(self, raised(made_rows, rows, [program, value, None]), ("InvalidPrograms", 1))
        self.assertEqual(raised(made_rows, rows, [program] * 9), ("InvalidPrograms", -1))
        self.assertEqual(raised(made_rows, rows, [None] * 9), ("InvalidPrograms", -1))
        for inputs in (0, 1, 3):
            other = Program(Stock(), inputs, [("never",)])
            self.assertEqual(raised(made_rows, rows, (program, program, other)), ("InvalidPrograms", 2))
        self.assertEqual(raised(made_rows, [()], [program]), ("InvalidPrograms", 0))
