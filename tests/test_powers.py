import random
import unittest
from itertools import combinations

from neverboxes.boxes import Box, Stock
from neverboxes.onebox import one_box
from neverboxes.powers import cheaper_sets, cheapest, compare, least_sets, makes_stock, spare_boxes
from neverboxes.tablemaking import barred, makes
from neverboxes.tables import Table
from tests.definitions import and_table, columns_of_stock, gustave_table, layer_table
from tests.samples import all_but, any_values, not_table, or_stock, or_table, raised, raised_is, some_table, yes_table

NONE = Stock()
OR = Stock(Box("or", or_table()))
AND = Stock(Box("and", and_table()))
GUSTAVE = Stock(Box("g", gustave_table()))
# Two stocks of which none makes the other one.
LEFT = Stock(Box("left", Table(2, [((None, 1), 1), ((1, None), 1)])))
RIGHT = Stock(Box("right", Table(3, [((None, 0, 1), 1), ((0, 1, None), 0), ((1, None, 0), 0)])))
FIVE = Stock(*[Box(name, table) for name, table in
               zip("abcde", (or_table(), and_table(), not_table(), gustave_table(), yes_table()))])


def drawn_stock(chance, signs, most=3, most_inputs=2):
    boxes = []
    for name in "abcde"[:chance.randint(0, most)]:
        boxes.append(Box(name, some_table(chance, chance.randint(0, most_inputs), signs, 5)))
    return Stock(*boxes, signs=signs)


def sets_of(stock):
    """All sets of boxes, in set order."""
    return [names for size in range(len(stock) + 1) for names in combinations(stock.names(), size)]


def makes_each(one, other):
    return all(makes(one, box.table) for box in other.boxes())


def by_price(stock, prices):
    sets = sets_of(stock)
    return sorted(sets, key=lambda names: (sum(prices[name] for name in names), sets.index(names)))


class MakesStockTest(unittest.TestCase):
    def test_ordinary_stocks(self):
        for one, other, expected in ((OR, NONE, True), (NONE, OR, False), (OR, AND, True), (AND, OR, True),
                                     (OR, GUSTAVE, True), (GUSTAVE, OR, False), (NONE, NONE, True),
                                     (NONE, Stock(Box("no", not_table()), Box("yes", yes_table())), True),
                                     (OR, FIVE, True), (FIVE, OR, True), (GUSTAVE, FIVE, False)):
            self.assertIs(makes_stock(one, other), expected)
            self.assertIs(makes_stock(other=other, one=one), expected)

    def test_all_boxes_count(self):
        for boxes in ((or_table(), not_table()), (not_table(), or_table()), (not_table(), not_table())):
            stock = Stock(*[Box(name, table) for name, table in zip("ab", boxes)])
            self.assertIs(makes_stock(NONE, stock), or_table() not in boxes)

    def test_columns_at_all_rows(self):
        chance = random.Random(26)
        seen = {True: 0, False: 0}
        rows = [(None, None), (None, 0), (None, 1), (0, None), (0, 0), (0, 1), (1, None), (1, 0), (1, 1)]
        while min(seen.values()) < 3:
            one = Stock(*[Box("x", some_table(chance, 2, 2, 4))])
            other = Stock(*[Box("y", some_table(chance, 2, 2, 6))])
            expected = tuple(other.box("y").table.all_values()) in columns_of_stock(rows, one)
            self.assertIs(makes_stock(one, other), expected)
            seen[expected] += 1

    def test_drawn_stocks(self):
        chance = random.Random(27)
        for _ in range(40):
            signs = chance.choice([2, 3])
            one, other = drawn_stock(chance, signs), drawn_stock(chance, signs)
            if raised(compare, one, other) is None:
                self.assertIs(makes_stock(one, other), makes_each(one, other))


class CompareTest(unittest.TestCase):
    def test_words(self):
        for one, other, word in ((OR, NONE, "more"), (NONE, OR, "less"), (OR, AND, "alike"), (LEFT, RIGHT, "neither"),
                                 (GUSTAVE, OR, "less"), (NONE, NONE, "alike"), (OR, FIVE, "alike"),
                                 (FIVE, GUSTAVE, "more"), (Stock(Box("no", not_table())), NONE, "alike")):
            self.assertEqual(compare(one, other), word)
            self.assertEqual(compare(other=other, one=one), word)
        self.assertEqual(compare(or_stock(3), Stock(signs=3)), "more")
        self.assertEqual(compare(OR, Stock(Box("x", or_table()))), "alike")

    def test_drawn_stocks(self):
        chance = random.Random(271)
        seen = {}
        words = {(True, True): "alike", (True, False): "more", (False, True): "less", (False, False): "neither"}
        while len(seen) < 3 or sum(seen.values()) < 60:
            signs = chance.choice([2, 3])
            one, other = drawn_stock(chance, signs, most_inputs=3), drawn_stock(chance, signs, most_inputs=3)
            told = raised(compare, one, other)
            if told is None:
                word = words[makes_each(one, other), makes_each(other, one)]
                self.assertEqual(compare(one, other), word)
                seen[word] = seen.get(word, 0) + 1
            else:
                self.assertEqual(told[0], "TooMany")


class SetsTest(unittest.TestCase):
    def test_spare_boxes(self):
        self.assertEqual(spare_boxes(NONE), [])
        self.assertEqual(spare_boxes(OR), [])
        self.assertEqual(spare_boxes(stock=Stock(Box("no", not_table()))), ["no"])
        # Each of or and and can be left out, but not both.
        self.assertEqual(spare_boxes(FIVE), ["a", "b", "c", "d", "e"])
        self.assertEqual(spare_boxes(Stock(Box("z", or_table()), Box("g", gustave_table()))), ["g"])
        self.assertEqual(spare_boxes(Stock(Box("z", yes_table()), Box("b", or_table()), Box("a", not_table()))),
                         ["z", "a"])

    def test_boxes_with_equal_tables(self):
        twice = Stock(Box("or", or_table()), Box("too", or_table()))
        self.assertEqual([spare_boxes(twice), least_sets(twice)], [["or", "too"], [("or",), ("too",)]])

    def test_least_sets(self):
        self.assertEqual(least_sets(NONE), [()])
        self.assertEqual(least_sets(OR), [("or",)])
        self.assertEqual(least_sets(Stock(Box("no", not_table()))), [()])
        self.assertEqual(least_sets(stock=FIVE), [("a",), ("b",)])

    def test_sets_of_different_sizes(self):
        both = Stock(*RIGHT.boxes(), *LEFT.boxes())
        self.assertEqual([compare(both, OR), compare(both, LEFT), compare(RIGHT, both)], ["less", "more", "less"])
        self.assertEqual([spare_boxes(both), least_sets(both)], [[], [("right", "left")]])
        stock = Stock(*LEFT.boxes(), one_box(both, "one"), *RIGHT.boxes())
        self.assertEqual(least_sets(stock), [("one",), ("left", "right")])
        self.assertEqual(least_sets(stock), least_by_search(stock))
        self.assertEqual(spare_boxes(stock), ["left", "one", "right"])

    def test_drawn_stocks(self):
        chance = random.Random(273)
        for _ in range(40):
            stock = drawn_stock(chance, chance.choice([2, 3]), most=5)
            if raised(least_sets, stock) is None:
                self.assertEqual(least_sets(stock), least_by_search(stock))
                expected = [name for name in stock.names() if makes(stock.without(name), stock.box(name).table)]
                self.assertEqual(spare_boxes(stock), expected)

    def test_told_lists_are_new(self):
        least_sets(FIVE).clear()
        spare_boxes(FIVE).clear()
        self.assertEqual([len(least_sets(FIVE)), len(spare_boxes(FIVE))], [2, 5])


def least_by_search(stock):
    enough = [names for names in sets_of(stock) if makes_each(stock.only(names), stock)]
    return [names for names in enough
            if not any(tuple(other for other in names if other != name) in enough for name in names)]


class PricesTest(unittest.TestCase):
    def test_ordinary_prices(self):
        prices = {"e": 1, "d": 9, "c": 0, "b": 7, "a": 7}
        self.assertEqual(cheapest(FIVE, prices, or_table()), ("a",))
        self.assertEqual(cheapest(table=or_table(), stock=FIVE, prices={**prices, "a": 8}), ("b",))
        self.assertEqual(cheapest(FIVE, prices, not_table()), ())
        self.assertEqual(cheapest(FIVE, prices, gustave_table()), ("a",))
        self.assertEqual(cheapest(FIVE, {**prices, "d": 6}, gustave_table()), ("d",))
        self.assertEqual(cheapest(NONE, {}, not_table()), ())

    def test_equal_sums(self):
        # Of equal sums, fewer boxes come first, then the positions in the stock count, not the names.
        stock = Stock(Box("z", and_table()), Box("a", or_table()), Box("m", not_table()))
        for price in (0, 1, 9999):
            prices = {"a": price, "m": 0, "z": price}
            self.assertEqual(cheapest(stock, prices, gustave_table()), ("z",))
        told = [names for names, _ in cheaper_sets(stock, {"a": 0, "m": 0, "z": 9999}, gustave_table())]
        self.assertEqual(told, [()])
        self.assertEqual(cheapest(stock, {"a": 0, "m": 0, "z": 0}, not_table()), ())
        told = [names for names, _ in cheaper_sets(stock, {"a": 9999, "m": 9999, "z": 9999}, or_table())]
        self.assertEqual(told, [()])

    def test_a_set_with_more_boxes_may_be_cheaper(self):
        stock = Stock(Box("or", or_table()), Box("no", not_table()), Box("yes", yes_table()))
        prices = {"or": 5, "no": 1, "yes": 2}
        self.assertEqual([names for names, _ in cheaper_sets(stock, prices, or_table())],
                         [(), ("no",), ("yes",), ("no", "yes")])
        self.assertEqual(cheapest(stock, prices, or_table()), ("or",))

    def test_drawn_prices(self):
        chance = random.Random(274)
        made = {True: 0, False: 0}
        while min(made.values()) < 15:
            signs = chance.choice([2, 3])
            stock = drawn_stock(chance, signs, most=5)
            if len(stock) > 0 and chance.random() < 0.5:
                table = chance.choice(stock.boxes()).table
            else:
                table = some_table(chance, chance.randint(1, 3), signs, 5)
            if raised(barred, table, stock) is not None:
                continue
            prices = {name: chance.choice([0, 1, 1, 2, 9999]) for name in reversed(stock.names())}
            told = dict(prices)
            ahead = []
            for names in by_price(stock, prices):
                bar = barred(table, stock.only(names))
                if bar is None:
                    self.assertEqual(cheapest(stock, prices, table), names)
                    break
                ahead.append((names, bar))
            else:
                raised_is(self, raised(cheapest, stock, prices, table), ("NotMade", *barred(table, stock)))
            self.assertEqual(list(cheaper_sets(stock, prices, table)), ahead)
            self.assertEqual((prices, list(prices)), (told, list(told)))
            made[makes(stock, table)] += 1

    def test_a_table_that_is_not_made(self):
        prices = {"g": 3}
        bar = barred(or_table(), GUSTAVE)
        raised_is(self, raised(cheapest, GUSTAVE, prices, or_table()), ("NotMade", *bar))
        self.assertEqual(list(cheaper_sets(table=or_table(), prices=prices, stock=GUSTAVE)),
                         [((), barred(or_table(), NONE)), (("g",), bar)])
        self.assertEqual(list(cheaper_sets(NONE, {}, or_table())), [((), barred(or_table(), NONE))])

    def test_the_table_that_hangs_everywhere(self):
        prices = dict.fromkeys("abcde", 0)
        self.assertEqual([cheapest(FIVE, prices, Table(5, [])), list(cheaper_sets(FIVE, prices, Table(5, [])))],
                         [(), []])

    def test_a_generator_that_is_left(self):
        prices = {"or": 5}
        sets = cheaper_sets(OR, prices, or_table())
        self.assertEqual(next(sets)[0], ())
        prices.clear()
        del sets
        self.assertEqual(cheapest(OR, {"or": 0}, or_table()), ("or",))
        # What the dict says later has no effect on sets that are being told.
        prices = dict.fromkeys("abcde", 1)
        sets = cheaper_sets(FIVE, prices, or_table())
        next(sets)
        prices.update(c=9999, d=9999, e=9999)
        self.assertEqual(list(sets), [])


class ErrorsTest(unittest.TestCase):
    def check_priced(self, expected, stock, prices, table):
        raised_is(self, raised(cheapest, stock, prices, table), expected)
        raised_is(self, raised(lambda: next(cheaper_sets(stock, prices, table))), expected)

    def test_signs(self):
        for one, other in ((NONE, Stock(signs=3)), (or_stock(3), OR)):
            for call in (makes_stock, compare):
                self.assertEqual(raised(call, one, other), ("Mismatch",))
        for value in any_values():
            if not isinstance(value, Stock):
                for call in (makes_stock, compare):
                    self.assertEqual(raised(call, OR, value), ("Mismatch",))
                    self.assertEqual(raised(call, value, OR), ("Mismatch",))
            if not isinstance(value, Table):
                self.check_priced(("Mismatch",), OR, {"or": 1}, value)
        self.check_priced(("Mismatch",), OR, {"or": 1}, or_table(3))
        self.check_priced(("Mismatch",), or_stock(3), None, or_table())

    def test_prices(self):
        for value in all_but([]):
            self.check_priced(("InvalidPrices",), OR, value, or_table())
        for value in ({"or": -1}, {"or": 10000}, {"or": True}, {"or": "1"}, {"or": 1, "and": 1}, {"and": 1},
                      {"or": 1, None: 1}, {1: 1}, [("or", 1)], {("or",): 1}):
            self.check_priced(("InvalidPrices",), OR, value, or_table())
        for value in ({"or": 1}, None):
            self.check_priced(("InvalidPrices",), NONE, value, not_table())
        for price in (0, 9999):
            self.assertEqual(cheapest(OR, {"or": price}, or_table()), ("or",))

    def test_many_rows(self):
        wide = Stock(Box("w", layer_table(7)), Box("x", layer_table(8)))
        for other in (wide, Stock(*OR.boxes(), *wide.boxes()), Stock(Box("no", not_table()), *wide.boxes())):
            # or is made by itself and barred for the stock without boxes; the later table counts all the same.
            for one in (OR, NONE):
                self.assertEqual(raised(makes_stock, one, other), ("TooMany", "rows", 8))
                self.assertEqual(raised(compare, one, other), ("TooMany", "rows", 8))
                self.assertEqual(raised(compare, other, one), ("TooMany", "rows", 8))
            self.assertEqual(raised(spare_boxes, other), ("TooMany", "rows", 8))
            self.assertEqual(raised(least_sets, other), ("TooMany", "rows", 8))
        self.check_priced(("TooMany", "rows", 9), OR, {"or": 0}, layer_table(8))
        self.check_priced(("InvalidPrices",), OR, {"or": -1}, layer_table(8))

    def test_many_picks(self):
        wide = Stock(Box("w", layer_table(14)))
        # The longest test list of or has four rows.
        self.assertEqual(raised(makes_stock, wide, OR), ("TooMany", "picks", 15 ** 4))
        self.assertEqual(raised(makes_stock, wide, Stock(Box("no", not_table()), *OR.boxes())),
                         ("TooMany", "picks", 15 ** 4))
        self.check_priced(("TooMany", "picks", 15 ** 4), wide, {"w": 1}, or_table())
        # The whole stock counts, although no set that is tried ahead of the cheapest one has the box.
        self.check_priced(("TooMany", "picks", 15 ** 4), Stock(*OR.boxes(), *wide.boxes()), {"or": 0, "w": 9},
                          or_table())
        self.assertEqual(raised(makes_stock, OR, wide), ("TooMany", "rows", 15))
        own = Stock(Box("g", gustave_table()), Box("l", layer_table(6)))
        # The box g of three least rows has four rows in its longest test list, l has seven.
        self.assertEqual(raised(spare_boxes, own), ("TooMany", "picks", 7 ** 7))
        self.assertEqual(raised(least_sets, own), ("TooMany", "picks", 7 ** 7))

    def test_order_in_compare(self):
        # First one for the boxes of other, then other for the boxes of one.
        one, other = Stock(Box("w", layer_table(14))), OR
        self.assertEqual(raised(compare, one, other), ("TooMany", "picks", 15 ** 4))
        self.assertEqual(raised(compare, other, one), ("TooMany", "rows", 15))
        self.assertEqual(raised(compare, Stock(Box("w", layer_table(7))), Stock(Box("x", layer_table(8)))),
                         ("TooMany", "rows", 9))
        self.assertEqual(raised(compare, Stock(signs=3), one), ("Mismatch",))

    def test_too_many_ahead_of_not_made(self):
        stock = Stock(Box("w", layer_table(14)))
        self.check_priced(("TooMany", "picks", 15 ** 4), stock, {"w": 5}, gustave_table())
