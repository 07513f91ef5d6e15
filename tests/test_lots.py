import random
import unittest

from neverboxes.boxes import Box, Stock
from neverboxes.lots import (
    alike_on, answers_on, check_picks, check_rows, every_lot, first_broken, is_column, is_lot, is_pairs, keeps_pair,
    thinned,
)
from neverboxes.tables import Table
from tests.definitions import (
    break_of, does_answer, does_keep, is_alike, layer_table, lots_of, some_column, some_pairs,
)
from tests.samples import all_but, any_values, is_under, or_table, raised, raised_is, some_cases, yes_table


class LotTest(unittest.TestCase):
    def test_every_lot(self):
        self.assertEqual(every_lot(1), [(0,)])
        self.assertEqual(every_lot(count=3), [(0,), (1,), (2,), (0, 1), (0, 2), (1, 2), (0, 1, 2)])
        for count in range(1, 8):
            self.assertEqual(every_lot(count), lots_of(count))
        every_lot(3).clear()
        self.assertEqual(len(every_lot(3)), 7)

    def test_lots(self):
        for count in range(1, 8):
            for lot in lots_of(7):
                self.assertIs(is_lot(lot, count), lot[-1] < count, lot)
        self.assertIs(is_lot(count=3, value=(0, 2)), True)

    def test_no_lots(self):
        for value in all_but([(0,), (1,)]):
            self.assertIs(is_lot(value, 7), False, repr(value))
        for value in [(1, 0), (0, 0), (0, 1, 1), (-1,), (-1, 0), (2,), (0, 2), (True,), (False,), (0, True), (False, 1),
                      [0], [0, 1], (0, None), (0, "1"), (0, (1,)), ((0,),), "01", {0: 1}]:
            self.assertIs(is_lot(value, 2), False, repr(value))


class ColumnTest(unittest.TestCase):
    def test_columns(self):
        self.assertIs(is_column((None, 0, 1), 3, 2), True)
        self.assertIs(is_column(signs=3, count=7, value=(2, 1, 0, None, 2, 1, 0)), True)
        self.assertIs(is_column((2,), 1, 2), False)
        self.assertIs(is_column((2,), 1, 3), True)
        self.assertIs(is_column((3,), 1, 3), False)
        self.assertIs(is_column((0, 0), 3, 2), False)
        self.assertIs(is_column((0, 0), 1, 2), False)
        self.assertIs(is_column([0, 0], 2, 2), False)
        self.assertIs(is_column((0, True), 2, 2), False)
        self.assertIs(is_column((0, -1), 2, 2), False)
        for value in all_but([(0,), (1,), (None,)]):
            self.assertIs(is_column(value, 1, 3), False, repr(value))

    def test_answers_and_alike(self):
        column = (1, None, 1, 0)
        self.assertEqual([answers_on(column, lot) for lot in [(0,), (1,), (0, 2), (0, 3), (0, 1, 2)]],
                         [True, False, True, True, False])
        self.assertEqual([alike_on(column, lot) for lot in [(0,), (1,), (0, 2), (0, 3), (0, 1, 2), (3,)]],
                         [True, False, True, False, False, True])
        self.assertIs(alike_on((None, None), (0, 1)), False)
        self.assertIs(alike_on(lot=(0, 1), column=(2, 2)), True)
        self.assertIs(answers_on(lot=(0, 1), column=(0, 0)), True)

    def test_keeps_pair(self):
        pair = ((0, 1), (0, 1, 2))
        self.assertIs(keeps_pair((1, None, 0), pair), True)
        self.assertIs(keeps_pair((1, 1, 1), pair), True)
        self.assertIs(keeps_pair((1, 1, None), pair), False)
        self.assertIs(keeps_pair((1, 1, 0), pair), False)
        self.assertIs(keeps_pair((1, 0, None), pair), False)
        self.assertIs(keeps_pair(pair=((0,), (0,)), column=(None,)), True)

    def test_first_broken(self):
        pairs = [((0,), (0,)), ((1,), (1, 2)), ((0, 1), (0, 1, 2, 3))]
        self.assertIs(first_broken((None, None, None, None), pairs), None)
        self.assertEqual(first_broken((0, 1, None, None), pairs), ((1,), 1, 2))
        self.assertEqual(first_broken((0, 1, 1, None), pairs), ((0, 1), 0, 1))
        self.assertEqual(first_broken((0, 0, 0, None), pairs), ((0, 1), 0, 3))
        self.assertEqual(first_broken(pairs=[((1,), (0, 1))], column=(None, 1)), ((1,), 1, 0))
        self.assertIs(first_broken((0, 1), []), None)
        self.assertIs(first_broken((0, 1), ()), None)

    def test_agrees_with_the_definition(self):
        chance = random.Random(14)
        for at in range(600):
            count, signs = chance.randint(1, 5), 2 + at % 2
            column, pairs = some_column(chance, count, signs), some_pairs(chance, count)
            for lot in lots_of(count):
                self.assertIs(answers_on(column, lot), does_answer(column, lot))
                self.assertIs(alike_on(column, lot), is_alike(column, lot))
            for pair in pairs:
                self.assertIs(keeps_pair(column, pair), does_keep(column, [pair]))
            before = list(pairs)
            self.assertEqual(first_broken(column, pairs), break_of(column, pairs))
            self.assertEqual(pairs, before)


class PairsTest(unittest.TestCase):
    def test_lists_of_pairs(self):
        for value in ([], (), [((0,), (0,))], (((1,), (0, 1, 2)),), [((0, 1, 2), (0, 1, 2))],
                      [((2,), (2,)), ((0, 1), (0, 1, 2))], [((0,), (0,)), ((2,), (1, 2)), ((0, 2), (0, 2))]):
            self.assertIs(is_pairs(value, 3), True, value)
        self.assertIs(is_pairs(count=1, value=[((0,), (0,))]), True)
        chance = random.Random(17)
        for count in range(1, 8):
            self.assertIs(is_pairs([(lot, lot) for lot in lots_of(count)], count), True)
            self.assertIs(is_pairs(some_pairs(chance, count, many=9), count), True)

    def test_values_of_every_kind(self):
        for value in all_but([(), []]):
            self.assertIs(is_pairs(value, 3), False, repr(value))
        for value in any_values():
            self.assertIs(is_pairs([((0,), (0,)), value], 3), False, repr(value))
        for value in all_but([(0,), (1,)]):
            self.assertIs(is_pairs([(value, (0, 1, 2))], 3), False, repr(value))
        for value in all_but([(0,)]):
            self.assertIs(is_pairs([((0,), value)], 3), False, repr(value))

    def test_wrong_pairs(self):
        good = ((0,), (0, 1))
        for value in ([[(0,), (0, 1)]], [((0,), (0, 1), ())], [((0,),)], [((0,), (1,))], [((0, 1), (0,))],
                      [((0,), (1, 0))], [((0,), (0, 0))], [((0,), (0, True))], [((False,), (0,))], [((True,), (1,))],
                      [((0,), (0, 3))], [((3,), (3,))], [((), (0,))], [((), ())], [((0,), ())],
                      [([0], (0,))], [((0,), [0])], {good: 1}, "x", [good, good],
                      [good, ((0,), (0,))], [((1,), (1,)), good], [((0, 1), (0, 1)), good],
                      [((0, 2), (0, 2)), ((0, 1), (0, 1))], [good, None]):
            self.assertIs(is_pairs(value, 3), False, value)

    def test_pairs_of_longer_lists(self):
        self.assertIs(is_pairs([((2,), (2,))], 2), False)
        self.assertIs(is_pairs([((1,), (1, 2))], 2), False)


class CheckRowsTest(unittest.TestCase):
    def test_lists_of_rows(self):
        for rows, signs in (([()], 2), ([()] * 7, 3), ([(None,) * 8] * 7, 2), (((0,), (0,), (None,)), 2),
                            ([(2, 1), (None, 0)], 3), ([(0,) * 8], 3)):
            self.assertIs(check_rows(rows, signs), None)
        self.assertIs(check_rows(signs=2, rows=[(1, None)]), None)

    def test_no_lists(self):
        for value in any_values():
            if not isinstance(value, (list, tuple)) or len(value) == 0:
                raised_is(self, raised(check_rows, value, 2), ("InvalidRow", -1))

    def test_wrong_rows(self):
        for value in all_but([(0,), (1,), (None,)]):
            raised_is(self, raised(check_rows, [(0,), value, None], 2), ("InvalidRow", 1))
        for value in all_but([(), (0,), (1,), (None,)]):
            raised_is(self, raised(check_rows, [value, value], 2), ("InvalidRow", 0))
        self.assertEqual(raised(check_rows, [(0, 1), (0, 1), (0,)], 2), ("InvalidRow", 2))
        self.assertEqual(raised(check_rows, [(), (0,)], 2), ("InvalidRow", 1))
        self.assertEqual(raised(check_rows, [(0, 2)], 2), ("InvalidRow", 0))
        self.assertEqual(raised(check_rows, [(0, 2), (0, 3)], 3), ("InvalidRow", 1))
        self.assertEqual(raised(check_rows, [(0, 1), [0, 1]], 2), ("InvalidRow", 1))
        self.assertEqual(raised(check_rows, [(0, 1), (0, True)], 2), ("InvalidRow", 1))
        self.assertEqual(raised(check_rows, "0", 2), ("InvalidRow", -1))

    def test_many(self):
        self.assertEqual(raised(check_rows, [()] * 8, 2), ("TooMany", "rows", 8))
        self.assertEqual(raised(check_rows, ((0,),) * 30, 2), ("TooMany", "rows", 30))
        self.assertEqual(raised(check_rows, [(0,) * 9], 2), ("TooMany", "inputs", 9))
        self.assertEqual(raised(check_rows, [(None,) * 12] * 7, 3), ("TooMany", "inputs", 12))

    def test_order_of_errors(self):
        self.assertEqual(raised(check_rows, [None] * 8, 2), ("TooMany", "rows", 8))
        self.assertEqual(raised(check_rows, [(0,) * 9] * 8, 2), ("TooMany", "rows", 8))
        self.assertEqual(raised(check_rows, [(0,) * 9, (0,) * 8], 2), ("InvalidRow", 1))
        self.assertEqual(raised(check_rows, [(5,) * 9], 2), ("InvalidRow", 0))
        self.assertEqual(raised(check_rows, [(0,), (3,), 5], 2), ("InvalidRow", 1))

    def test_rows_stay_as_they_were(self):
        rows = [(0, 1), [0]]
        raised(check_rows, rows, 2)
        self.assertEqual(rows, [(0, 1), [0]])


class ManyCases:
    """Stands for a table with many least rows, as no table reaches the bound exactly."""

    def __init__(self, many):
        self.many = many

    def __len__(self):
        return self.many


class CheckPicksTest(unittest.TestCase):
    def test_few(self):
        self.assertIs(check_picks(7, Stock()), None)
        self.assertIs(check_picks(stock=Stock(Box("or", or_table())), many=7), None)
        for many, least in ((3, 35), (4, 13), (5, 7), (6, 5), (7, 3), (2, 80)):
            self.assertIs(check_picks(many, Stock(Box("a", layer_table(least)))), None)
        self.assertIs(check_picks(7, Stock(Box("a", Table(2, [])), Box("b", yes_table()))), None)

    def test_many(self):
        for many, least in ((3, 36), (4, 14), (5, 8), (6, 6), (7, 4)):
            stock = Stock(Box("a", layer_table(least)))
            self.assertEqual(raised(check_picks, many, stock), ("TooMany", "picks", (least + 1) ** many))

    def test_the_bound_itself(self):
        box = Box("a", yes_table())
        stock = Stock(box)
        box.table = ManyCases(49999)
        self.assertIs(check_picks(1, stock), None)
        box.table = ManyCases(50000)
        self.assertEqual(raised(check_picks, 1, stock), ("TooMany", "picks", 50001))

    def test_the_first_box_counts(self):
        boxes = [Box("a", yes_table()), Box("b", layer_table(5)), Box("c", layer_table(9))]
        self.assertEqual(raised(check_picks, 7, Stock(*boxes)), ("TooMany", "picks", 6 ** 7))
        self.assertEqual(raised(check_picks, 7, Stock(*boxes[::-1])), ("TooMany", "picks", 10 ** 7))
        self.assertEqual(raised(check_picks, 5, Stock(*boxes)), ("TooMany", "picks", 10 ** 5))

    def test_three_signs(self):
        table = Table(2, [((at, None), 2) for at in range(3)], signs=3)
        self.assertIs(check_picks(7, Stock(Box("a", table), signs=3)), None)
        table = Table(2, [((one, other), 2) for one in range(2) for other in range(2)], signs=3)
        self.assertEqual(raised(check_picks, 7, Stock(Box("a", table), signs=3)), ("TooMany", "picks", 5 ** 7))


class ThinnedTest(unittest.TestCase):
    def test_examples(self):
        rows = [(None, 1), (0, 1), (1, None), (None, 1), (None, None)]
        self.assertEqual(thinned(rows, (0,)), (0,))
        self.assertEqual(thinned(rows, (0, 1)), (0,))
        self.assertEqual(thinned(rows, (0, 3)), (0,))
        self.assertEqual(thinned(rows, (1, 3)), (3,))
        self.assertEqual(thinned(rows, (0, 1, 2, 3)), (0, 2))
        self.assertEqual(thinned(rows, (1, 2)), (1, 2))
        self.assertEqual(thinned(lot=(0, 1, 2, 3, 4), rows=rows), (4,))
        self.assertEqual(thinned([()] * 7, (2, 4, 6)), (2,))

    def test_agrees_with_the_definition(self):
        chance = random.Random(21)
        for at in range(200):
            rows = [row for row, _ in some_cases(chance, at % 4, 2 + at % 2, chance.randint(1, 7))]
            for lot in lots_of(len(rows)):
                left = []
                for row in lot:
                    lower = [q for q in lot if q != row and is_under(rows[q], rows[row])]
                    if not any(not is_under(rows[row], rows[q]) or q < row for q in lower):
                        left.append(row)
                self.assertEqual(thinned(rows, lot), tuple(left))

    def test_no_lots(self):
        rows = [(0,), (1,)]
        for value in all_but([(0,), (1,)]):
            raised_is(self, raised(thinned, rows, value), ("UnknownLot", value))
        for value in ((2,), (0, 2), (1, 0), (0, 0), (True,), (0, True), [0], ()):
            told = raised(thinned, rows, value)
            self.assertEqual(told, ("UnknownLot", value))
            self.assertIs(type(told[1]), type(value))
        self.assertEqual(rows, [(0,), (1,)])
