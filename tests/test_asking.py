import random
import unittest

from neverboxes.asking import asking_pairs, told_inputs
from neverboxes.boxes import Stock
from tests.definitions import THREE_ROWS, columns_of_stock, does_answer, lots_of, sheet_by_columns
from tests.samples import all_but, any_values, raised, raised_is, some_cases


def some_rows(chance, inputs, signs, count):
    return [row for row, _ in some_cases(chance, inputs, signs, count)]


class ToldInputsTest(unittest.TestCase):
    def test_examples(self):
        rows = [(1, None, 0), (1, 1, 1), (None, 0, 1)]
        self.assertEqual(told_inputs(rows, (0,)), [0, 2])
        self.assertEqual(told_inputs(rows, (0, 1)), [0, 2])
        self.assertEqual(told_inputs(rows, (1, 2)), [1, 2])
        self.assertEqual(told_inputs(lot=(0, 1, 2), rows=rows), [2])
        self.assertEqual(told_inputs(THREE_ROWS, (0, 1)), [])
        self.assertEqual(told_inputs([(), ()], (0, 1)), [])
        self.assertEqual(told_inputs([(0,) * 8], (0,)), list(range(8)))

    def test_agrees_with_the_definition(self):
        chance = random.Random(16)
        for at in range(60):
            rows = some_rows(chance, at % 9, 2 + at % 2, 1 + at % 7)
            for lot in lots_of(len(rows)):
                told = [i for i in range(at % 9) if does_answer([row[i] for row in rows], lot)]
                self.assertEqual(told_inputs(rows, lot), told)
        rows = [(0, 1)]
        told_inputs(rows, (0,)).clear()
        self.assertEqual([told_inputs(rows, (0,)), rows], [[0, 1], [(0, 1)]])


class AskingPairsTest(unittest.TestCase):
    def test_three_rows(self):
        pairs = [((0,), (0,)), ((1,), (1,)), ((2,), (2,)), ((0, 1), (0, 1, 2)), ((0, 1, 2), (0, 1, 2))]
        self.assertEqual(asking_pairs(THREE_ROWS, 2), pairs)
        self.assertEqual(asking_pairs(signs=3, rows=tuple(THREE_ROWS)), pairs)

    def test_rows_that_nothing_tells_apart(self):
        for count in range(1, 8):
            whole = tuple(range(count))
            self.assertEqual(asking_pairs([()] * count, 2), [(lot, whole) for lot in lots_of(count)])
            self.assertEqual(asking_pairs([(None,) * 8] * count, 3), [(lot, whole) for lot in lots_of(count)])
            self.assertEqual(asking_pairs([(1, 0)] * count, 2), [(lot, whole) for lot in lots_of(count)])

    def test_one_row(self):
        for row in ((), (0,), (None,), (2, None, 1)):
            self.assertEqual(asking_pairs([row], 3), [((0,), (0,))])

    def test_rows_above(self):
        self.assertEqual(asking_pairs([(None,), (0,), (1,)], 2),
                         [((0,), (0, 1, 2)), ((1,), (1,)), ((2,), (2,)), ((0, 1), (0, 1, 2)), ((0, 2), (0, 1, 2)),
                          ((0, 1, 2), (0, 1, 2))])

    def test_agrees_with_the_definition(self):
        chance = random.Random(161)
        for at in range(60):
            signs = 2 + at % 2
            rows = some_rows(chance, at % 5, signs, chance.randint(1, 3 if signs == 2 else 2))
            columns = columns_of_stock(rows, Stock(signs=signs))
            before = list(rows)
            self.assertEqual(asking_pairs(rows, signs), sheet_by_columns(len(rows), columns), rows)
            self.assertEqual(rows, before)

    def test_errors(self):
        for value in all_but([2, 3]):
            raised_is(self, raised(asking_pairs, 5, value), ("InvalidSigns", value))
        for value in any_values():
            if not isinstance(value, (list, tuple)) or len(value) == 0:
                raised_is(self, raised(asking_pairs, value, 2), ("InvalidRow", -1))
        for value in all_but([(0,), (1,), (None,)]):
            raised_is(self, raised(asking_pairs, [(0,), value, 5], 3), ("InvalidRow", 1))
        self.assertEqual(raised(asking_pairs, [(2,)], 2), ("InvalidRow", 0))
        self.assertEqual(raised(asking_pairs, [None] * 8, 2), ("TooMany", "rows", 8))
        self.assertEqual(raised(asking_pairs, [(None,) * 9, (1,)], 2), ("InvalidRow", 1))
        self.assertEqual(raised(asking_pairs, [(None,) * 9], 2), ("TooMany", "inputs", 9))

    def test_told_lists_are_new(self):
        asking_pairs(THREE_ROWS, 2).clear()
        self.assertEqual(len(asking_pairs(THREE_ROWS, 2)), 5)
