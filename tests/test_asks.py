import random
import unittest

from neverboxes.asking import asking_pairs
from neverboxes.asks import askable, needs_no_box, stuck_list, stuck_rows
from neverboxes.boxes import Stock
from neverboxes.everything import at_once_table
from neverboxes.tablemaking import makes
from neverboxes.tables import Table
from tests.definitions import and_table, does_keep, gustave_table
from tests.samples import (
    all_but, by_row, do_fit, is_under, least_by_values, not_table, or_table, raised, raised_is, rows_of, some_table,
    yes_table,
)

# Asks its first input, and the second one if the first is 0.
ASKED = Table(2, [((1, None), 1), ((0, 0), 0), ((0, 1), 1)])


def drawn_tables(seed, many):
    chance = random.Random(seed)
    for at in range(many):
        signs = 2 + at % 2
        yield some_table(chance, at % (6 if signs == 2 else 5), signs, chance.choice([1, 3, 6, 12]))


def askable_by_definition(values, row):
    above = [other for other in values if is_under(row, other) and values[other] is not None]
    if values[row] is not None or not above:
        return []
    return [at for at, value in enumerate(row) if value is None and all(other[at] is not None for other in above)]


def stuck_by_definition(values):
    found = []
    for row in values:
        answers = any(is_under(row, other) and values[other] is not None for other in values)
        if values[row] is None and answers and not askable_by_definition(values, row):
            found.append(row)
    return found


class AskableTest(unittest.TestCase):
    def test_examples(self):
        self.assertEqual(askable(ASKED, (None, None)), [0])
        self.assertEqual(askable(row=(0, None), table=ASKED), [1])
        # It answers at the first of these rows, and at no row above the others.
        self.assertEqual([askable(ASKED, row) for row in ((1, None), (0, 0))], [[], []])
        self.assertEqual(askable(Table(2, [((0, 0), 1)]), (None, None)), [0, 1])
        self.assertEqual(askable(Table(2, [((0, 0), 1)]), (1, None)), [])
        self.assertEqual(askable(or_table(), (None, None)), [])
        self.assertEqual(askable(or_table(), (0, None)), [1])

    def test_agrees_with_the_definition(self):
        for table in drawn_tables(31, 40):
            values = by_row(table)
            chance = random.Random(1)
            for row in chance.sample(list(values), min(40, len(values))):
                self.assertEqual(askable(table, row), askable_by_definition(values, row))

    def test_rows(self):
        for value in all_but([]):
            raised_is(self, raised(askable, ASKED, value), ("InvalidRow", 0))
            raised_is(self, raised(stuck_list, or_table(), value), ("InvalidRow", 0))
        for value in ((0,), (0, 2), (0, 0, 0), [0, 0], (0, True)):
            self.assertEqual(raised(askable, ASKED, value), ("InvalidRow", 0))
        self.assertEqual(askable(yes_table(), ()), [])
        self.assertEqual(askable(or_table(3), (0, 2)), [])


class StuckTest(unittest.TestCase):
    def test_examples(self):
        self.assertEqual(stuck_rows(or_table()), [(None, None)])
        self.assertEqual(stuck_rows(table=gustave_table()), [(None, None, None)])
        self.assertEqual(stuck_list(or_table(), (None, None)), [(None, 1), (1, None), (None, None)])
        self.assertEqual(stuck_list(row=(None, None), table=and_table()), [(None, 0), (0, None), (None, None)])
        # At the row in which test hangs, then and else may answer it.
        self.assertEqual(stuck_rows(at_once_table(2)), [(None, None, None), (None, None, 0), (None, None, 1),
                                                        (None, 0, None), (None, 1, None)])

    def test_tables_without_stuck_rows(self):
        for table in (ASKED, not_table(), yes_table(), Table(5, []), Table(0, []), Table(0, [], signs=3),
                      Table(5, [((None,) * 5, 1)]), Table(4, [((0, 1, 2, 0), 2)], signs=3)):
            self.assertEqual(stuck_rows(table), [])
            self.assertIs(needs_no_box(table=table), True)

    def test_agrees_with_the_definition(self):
        seen = {True: 0, False: 0}
        for table in drawn_tables(311, 90):
            if len(table.all_values()) > 100:
                continue
            expected = stuck_by_definition(by_row(table))
            self.assertEqual(stuck_rows(table), expected)
            self.assertIs(needs_no_box(table), expected == [])
            seen[expected == []] += 1
            if raised(makes, Stock(signs=table.signs), table) is None:
                self.assertIs(makes(Stock(signs=table.signs), table), expected == [])
        self.assertGreater(min(seen.values()), 5)

    def test_tables_of_five_inputs(self):
        # Or of the first two inputs alone: stuck wherever both hang, whatever the others are.
        table = Table(5, [((None, 1, None, None, None), 1), ((1, None, None, None, None), 1),
                          ((0, 0, None, None, None), 0)])
        self.assertEqual(stuck_rows(table), [(None, None, *row) for row in rows_of(3, 2)])
        table = Table(4, [((None, 1, None, None), 1), ((1, None, None, None), 1), ((0, 0, None, None), 0)], signs=3)
        self.assertEqual(stuck_rows(table), [(None, None, *row) for row in rows_of(2, 3)])

    def test_stuck_lists(self):
        many = 0
        for table in [at_once_table(2), at_once_table(3), *drawn_tables(312, 60)]:
            least = [row for row, _ in least_by_values(by_row(table))] if len(table.all_values()) < 100 else []
            for row in stuck_rows(table)[:6] if least else []:
                expected = []
                for at, value in enumerate(row):
                    if value is None:
                        fits = next(other for other in least if do_fit(row, other) and other[at] is None)
                        expected.append(tuple(w if v is None else v for v, w in zip(row, fits)))
                told = stuck_list(table, row)
                self.assertEqual(told, [*expected, row])
                self.check_fact(table, told)
                many += 1
        self.assertGreater(many, 20)

    def check_fact(self, table, told):
        """Without boxes the rows ahead of the stuck one are forced and reach it, but the table breaks this pair."""
        lot = tuple(range(len(told) - 1))
        reaches = dict(asking_pairs(told, table.signs))
        self.assertIn(lot, reaches)
        self.assertIn(len(told) - 1, reaches[lot])
        column = tuple(table(row) for row in told)
        self.assertFalse(does_keep(column, [(lot, reaches[lot])]))

    def test_rows_that_are_not_stuck(self):
        for row in ((0, None), (1, None), (0, 0), (None, 1)):
            self.assertEqual(raised(stuck_list, or_table(), row), ("InvalidRow", 0))
        for table in (ASKED, not_table(), Table(2, [])):
            for row in rows_of(table.inputs, 2):
                self.assertEqual(raised(stuck_list, table, row), ("InvalidRow", 0))

    def test_told_lists_are_new(self):
        table = or_table()
        for told in (stuck_rows(table), stuck_list(table, (None, None)), askable(table, (0, None))):
            told.clear()
        self.assertEqual([len(stuck_rows(table)), len(stuck_list(table, (None, None))), askable(table, (0, None))],
                         [1, 3, [1]])
        self.assertEqual(table, or_table())
