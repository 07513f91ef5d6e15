import random
import unittest

from neverboxes.asking import asking_pairs
from neverboxes.boxes import Box, Stock
from neverboxes.closed import fault, is_closed
from neverboxes.tables import Table
from tests.definitions import (
    THREE_ROWS, and_table, fault_by_definition, layer_table, lots_of, some_pairs, telling_case,
)
from tests.samples import all_but, any_values, or_table, raised, raised_is, yes_table

OR = Stock(Box("or", or_table()))
SHEET = [((0,), (0,)), ((1,), (1,)), ((2,), (2,)), ((0, 1), (0, 1))]
PAIRS = asking_pairs(THREE_ROWS, 2)


class FaultTest(unittest.TestCase):
    def test_closed_lists(self):
        for rows, stock, pairs in ((THREE_ROWS, OR, SHEET), (THREE_ROWS, Stock(), PAIRS), (THREE_ROWS, OR, []),
                                   (tuple(THREE_ROWS), OR, tuple(SHEET)), ([()], OR, [((0,), (0,))]),
                                   ([()] * 7, OR, [(lot, tuple(range(7))) for lot in lots_of(7)])):
            self.assertIs(fault(rows, stock, pairs), None)
            self.assertIs(is_closed(rows, stock, pairs), True)

    def test_strikes_and_cuts(self):
        pick = ((None, 1), (1, None))
        self.assertEqual(fault(THREE_ROWS, OR, PAIRS), ("cut", (0, 1), "or", pick))
        pairs = SHEET + [((0, 1, 2), (0, 1, 2))]
        self.assertEqual(fault(pairs=pairs, stock=OR, rows=THREE_ROWS),
                         ("strike", (0, 1, 2), "or", ((None, 1), (1, None), (0, 0))))
        self.assertIs(is_closed(pairs=pairs, stock=OR, rows=THREE_ROWS), False)

    def test_inputs_come_first(self):
        rows = [(1, None, 1), (None, 1, 1), (0, 0, 0)]
        pairs = SHEET + [((0, 1, 2), (0, 1, 2))]
        self.assertEqual(fault(rows, OR, pairs), ("input", (0, 1, 2), 2))
        self.assertEqual(fault(rows, OR, [((0,), (0, 1, 2)), ((0, 1), (0, 1, 2))]), ("input", (0,), 0))
        self.assertEqual(fault([(None, 1), (0, 0)], OR, [((1,), (0, 1))]), ("input", (1,), 0))
        self.assertEqual(fault([(0, 1, 1), (0, 0, 0)], OR, [((1,), (0, 1))]), ("input", (1,), 1))

    def test_the_first_box_counts(self):
        pairs = [((0,), (0,)), ((1,), (1,)), ((2,), (2,)), ((0, 1), (0, 1, 2))]
        boxes = [Box("yes", yes_table()), Box("and", and_table()), Box("or", or_table())]
        self.assertEqual(fault(THREE_ROWS, Stock(*boxes), pairs), ("cut", (0, 1), "and", ((None, 0), (0, None))))
        self.assertEqual(fault(THREE_ROWS, Stock(*boxes[::-1]), pairs), ("cut", (0, 1), "or", ((None, 1), (1, None))))

    def test_agrees_with_the_definition(self):
        chance = random.Random(20)
        words = {"input": 0, "cut": 0, "strike": 0, None: 0}
        for at in range(300):
            stock, rows = telling_case(chance, 2 + at % 2, chance.randint(1, 4))
            pairs = asking_pairs(rows, stock.signs) if at % 3 else some_pairs(chance, len(rows), many=2 + at % 3)
            before = [list(rows), list(pairs)]
            told = fault(rows, stock, pairs)
            self.assertEqual(told, fault_by_definition(rows, stock, pairs))
            self.assertIs(is_closed(rows, stock, tuple(pairs)), told is None)
            self.assertEqual([rows, pairs], before)
            words[told and told[0]] += 1
        self.assertGreater(min(words.values()), 1, words)

    def test_boxes_that_tell_nothing(self):
        stock = Stock(Box("never", Table(2, [])), Box("one", Table(2, [((None, None), 1)])), Box("yes", yes_table()))
        self.assertIs(fault(THREE_ROWS, stock, PAIRS), None)


class FaultErrorsTest(unittest.TestCase):
    def check(self, expected, *told):
        raised_is(self, raised(fault, *told), expected)
        raised_is(self, raised(is_closed, *told), expected)

    def test_rows(self):
        for value in any_values():
            if not isinstance(value, (list, tuple)) or len(value) == 0:
                self.check(("InvalidRow", -1), value, OR, 5)
        for value in all_but([(0,), (1,), (None,)]):
            self.check(("InvalidRow", 1), [(0,), value], OR, 5)
        self.check(("InvalidRow", 0), [(2,)], OR, [])
        self.check(("TooMany", "rows", 8), [None] * 8, OR, 5)
        self.check(("TooMany", "inputs", 9), [(None,) * 9], OR, 5)
        self.assertIs(fault([(2,)], Stock(signs=3), []), None)

    def test_picks(self):
        many = Stock(Box("or", or_table()), Box("a", layer_table(4)))
        self.check(("TooMany", "picks", 5 ** 7), [()] * 7, many, 5)
        self.check(("TooMany", "inputs", 9), [(None,) * 9] * 7, many, 5)
        self.assertIs(fault([()] * 6, many, []), None)

    def test_pairs(self):
        for value in all_but([(), []]):
            self.check(("InvalidPairs",), THREE_ROWS, OR, value)
        for value in (SHEET[::-1], SHEET + SHEET[-1:], [((True,), (1,))], [((0,), (1,))], [((3,), (3,))],
                      [((0, 1), (0,))], [[(0,), (0,)]], [((1, 0), (0, 1))]):
            self.check(("InvalidPairs",), THREE_ROWS, OR, value)
