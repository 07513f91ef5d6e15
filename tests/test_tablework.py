import random
import unittest
from itertools import permutations, product

from neverboxes.tables import Table
from neverboxes.tablework import fixed, parting_row, turned, turned_input, wired
from tests.samples import (
    all_but, by_row, not_table, or_table, raised, raised_is, rows_of, some_table, yes_table,
)


def drawn_tables():
    chance = random.Random(7)
    shapes = [(0, 2), (1, 2), (2, 2), (3, 2), (0, 3), (1, 3), (2, 3)]
    return [some_table(chance, *shape, chance.randrange(8)) for shape in shapes for _ in range(4)]


class WiredTest(unittest.TestCase):
    def test_values(self):
        for table in drawn_tables():
            for inputs in range(4):
                for places in product(range(inputs), repeat=table.inputs):
                    made = wired(table, places, inputs)
                    self.assertEqual([made.inputs, made.signs], [inputs, table.signs])
                    for row, value in by_row(made).items():
                        self.assertEqual(value, table(tuple(row[place] for place in places)))

    def test_greatest_numbers_of_inputs(self):
        self.assertEqual(wired(or_table(), [4, 4], 5)((None, 0, 0, 0, 1)), 1)
        self.assertEqual(wired(or_table(3), [3, 0], 4)((0, None, None, 0)), 0)

    def test_no_inputs(self):
        self.assertEqual(wired(yes_table(), (), 0), yes_table())
        self.assertEqual(wired(inputs=2, places=[], table=yes_table()), Table(2, [((None, None), 1)]))

    def test_errors(self):
        for value in all_but([0, 1, 2, 3, 4, 8, 9, 999999999]):
            raised_is(self, raised(wired, or_table(), 5, value), ("InvalidInputs", value))
        self.assertEqual(raised(wired, or_table(), 5, 6), ("TooMany", "inputs", 6))
        self.assertEqual(raised(wired, or_table(3), 5, 5), ("TooMany", "inputs", 5))
        for value in all_but([(0,), (1,), [0]]):
            self.assertEqual(raised(wired, not_table(), value, 2), ("InvalidPlaces",), repr(value))
        for places in ([], [0], [0, 1, 0], [0, 2], [-1, 0], [0, True], (None, 0), {0: 0, 1: 1}, "01"):
            self.assertEqual(raised(wired, or_table(), places, 2), ("InvalidPlaces",), repr(places))
        self.assertEqual(raised(wired, not_table(), [0], 0), ("InvalidPlaces",))


class FixedTest(unittest.TestCase):
    def test_values(self):
        for table in drawn_tables():
            for at in range(table.inputs):
                for value in [None, *range(table.signs)]:
                    made = fixed(table, at, value)
                    self.assertEqual([made.inputs, made.signs], [table.inputs - 1, table.signs])
                    for row, told in by_row(made).items():
                        self.assertEqual(told, table((*row[:at], value, *row[at:])))

    def test_or(self):
        self.assertEqual(fixed(or_table(), 0, 1).least, [((None,), 1)])
        self.assertEqual(fixed(or_table(), 1, None).least, [((1,), 1)])
        self.assertEqual(fixed(value=1, at=0, table=not_table()).least, [((), 0)])

    def test_errors(self):
        for value in all_but([0, 1]):
            raised_is(self, raised(fixed, or_table(), value, "x"), ("InvalidNumber", value))
        self.assertEqual(raised(fixed, yes_table(), 0, 0), ("InvalidNumber", 0))
        for value in all_but([None, 0, 1]):
            raised_is(self, raised(fixed, or_table(), 0, value), ("InvalidValue", value))
        self.assertIsNone(raised(fixed, or_table(3), 0, 2))
        self.assertEqual(raised(fixed, or_table(3), 0, 3), ("InvalidValue", 3))


class TurnedTest(unittest.TestCase):
    def test_values(self):
        for table in drawn_tables():
            for order in permutations(range(table.signs)):
                made = turned(table, list(order))
                self.assertEqual(made.signs, table.signs)
                for row, value in by_row(table).items():
                    self.assertEqual(made(row), None if value is None else order[value])

    def test_turned_input_values(self):
        for table in drawn_tables():
            for order in permutations(range(table.signs)):
                for at in range(table.inputs):
                    made = turned_input(table, at, order)
                    for row in rows_of(table.inputs, table.signs):
                        told = row if row[at] is None else (*row[:at], order[row[at]], *row[at + 1:])
                        self.assertEqual(made(row), table(told))

    def test_an_order_of_three_signs_is_led_the_right_way(self):
        table = Table(1, [((0,), 1)], signs=3)
        self.assertEqual(turned(table, [1, 2, 0]).least, [((0,), 2)])
        self.assertEqual(turned_input(table, 0, [1, 2, 0]).least, [((2,), 1)])

    def test_by_name(self):
        self.assertEqual(turned(order=(1, 0), table=yes_table()).least, [((), 0)])
        self.assertEqual(turned_input(order=(1, 0), at=0, table=not_table()), turned(not_table(), (1, 0)))

    def test_wrong_orders(self):
        wrong = ([], [0], [0, 0], [1, 1], [0, 1, 2], [1, 2], [0, -1], [False, True], [0, None], (0, 1, 1), "01",
                 {0: 0, 1: 1}, ["0", "1"])
        for order in [*wrong, *all_but([])]:
            self.assertEqual(raised(turned, or_table(), order), ("InvalidOrder",), repr(order))
            self.assertEqual(raised(turned_input, or_table(), 0, order), ("InvalidOrder",), repr(order))
        self.assertEqual(raised(turned, or_table(3), [0, 1]), ("InvalidOrder",))
        self.assertIsNone(raised(turned, or_table(3), (2, 0, 1)))

    def test_wrong_input_counts_ahead_of_wrong_order(self):
        for value in all_but([0, 1]):
            raised_is(self, raised(turned_input, or_table(), value, 5), ("InvalidNumber", value))
        self.assertEqual(raised(turned_input, yes_table(), 0, [1, 0]), ("InvalidNumber", 0))


class PartingRowTest(unittest.TestCase):
    def test_definition(self):
        tables = drawn_tables()
        for one, other in product(tables, tables):
            if (one.inputs, one.signs) != (other.inputs, other.signs):
                self.assertEqual(raised(parting_row, one, other), ("Mismatch",))
                continue
            parting = [row for row in rows_of(one.inputs, one.signs) if one(row) != other(row)]
            parting.sort(key=lambda row: sum(value is not None for value in row))
            self.assertEqual(parting_row(one, other), parting[0] if parting else None)

    def test_fewest_answers_count_ahead_of_row_order(self):
        one = Table(2, [((None, 0), 1), ((0, 0), 1)])
        other = Table(2, [((0, 0), 1), ((1, None), 0)])
        self.assertEqual(parting_row(one, other), (None, 0))
        self.assertEqual(parting_row(Table(2, [((0, 0), 0)]), Table(2, [((1, None), 0)])), (1, None))
        self.assertEqual(parting_row(other=Table(0, []), one=yes_table()), ())

    def test_equal_tables(self):
        self.assertIsNone(parting_row(or_table(), or_table()))
        self.assertIsNone(parting_row(Table(0, []), Table(0, [])))

    def test_mismatch(self):
        self.assertEqual(raised(parting_row, or_table(), or_table(3)), ("Mismatch",))
        self.assertEqual(raised(parting_row, or_table(), not_table()), ("Mismatch",))
        for value in all_but([or_table()]):
            self.assertEqual(raised(parting_row, or_table(), value), ("Mismatch",))
            self.assertEqual(raised(parting_row, value, or_table()), ("Mismatch",))


class ArgumentsTest(unittest.TestCase):
    def test_they_stay_as_they_were(self):
        table, places, order = or_table(), [1, 0], [1, 0]
        wired(table, places, 2)
        turned(table, order)
        turned_input(table, 0, order)
        fixed(table, 0, 1)
        parting_row(table, Table(2, []))
        self.assertEqual([table, places, order], [or_table(), [1, 0], [1, 0]])
