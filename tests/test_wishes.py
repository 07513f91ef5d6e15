import random
import unittest
from itertools import product

from neverboxes.boxes import Box, Stock
from neverboxes.programs import Program
from neverboxes.sheets import sheet_of
from neverboxes.wishes import Wish, choice_fails, least_column, may_be, wish_program
from tests.definitions import THREE_ROWS, columns_of_stock, some_stock, steps_by_definition, telling_case
from tests.samples import all_but, any_values, is_under, or_table, raised, raised_is, some_cases

OR = Stock(Box("or", or_table()))
PLAIN = sheet_of(THREE_ROWS, Stock())
WITH_OR = sheet_of(THREE_ROWS, OR)
LETS = {
    "0": [0], "1": [1], "2": [2], "~": [None], "0?": [None, 0], "1?": [None, 1], "2?": [None, 2],
    "!": [0, 1, 2], "?": [None, 0, 1, 2],
}


def does_meet(column, items):
    return all(value in LETS[item] for value, item in zip(column, items))


def choices_of(items, signs):
    return list(product(range(signs), repeat=items.count("!")))


def failure_of(sheet, items, choice):
    """The pair (filling, why) of a choice, with None for the one that there is not."""
    left = list(choice)
    column = tuple(left.pop(0) if item == "!" else int(item) if item in ("0", "1", "2") else None for item in items)
    told = steps_by_definition(sheet.pairs(), column)
    if len(told) == 3:
        return None, ("clash", *told)
    for row, value in enumerate(told[0]):
        if value not in LETS[items[row]]:
            return None, ("row", row, value)
    return told[0], None


def drawn_wishes(many, seed):
    chance = random.Random(seed)
    for at in range(many):
        signs = chance.choice([2, 2, 3])
        if at % 3:
            stock, rows = telling_case(chance, signs, chance.randint(1, 3))
        else:
            stock = some_stock(chance, signs)
            rows = [row for row, _ in some_cases(chance, chance.randrange(4), signs, chance.randint(1, 3))]
        items = list(LETS) if signs == 3 else [item for item in LETS if "2" not in item]
        yield sheet_of(rows, stock), [chance.choice(items + ["!", "?"]) for _ in rows]


class WishTest(unittest.TestCase):
    def test_told(self):
        wish = Wish("0", "~", "!", "2?", "?")
        self.assertEqual([wish.parts(), len(wish), wish.text()], [["0", "~", "!", "2?", "?"], 5, "0 ~ ! 2? ?"])
        self.assertEqual(repr(wish), "Wish(0 ~ ! 2? ?)")
        self.assertEqual(repr(Wish("0", "~", "!")), "Wish(0 ~ !)")
        self.assertEqual(len(Wish(*["!"] * 20)), 20)

    def test_without_items(self):
        wish = Wish()
        self.assertEqual([wish.parts(), len(wish), wish.text(), repr(wish)], [[], 0, "", "Wish()"])
        self.assertIs(bool(wish), True)
        self.assertIs(wish.met_by(()), True)
        self.assertIs(wish.met_by((None,)), False)

    def test_items(self):
        for item in LETS:
            self.assertEqual(Wish(item).parts(), [item])
        for value in all_but(["0", "~"]):
            raised_is(self, raised(Wish, "0", value, None), ("InvalidItem", 1))
        for item in ("3", "3?", "00", "0 ", " 0", "?0", "~?", "!?", "??", "0!", "", "0\n", "01", "-1"):
            self.assertEqual(raised(Wish, item), ("InvalidItem", 0), item)

    def test_lets(self):
        for item, values in LETS.items():
            wish = Wish("?", item)
            for value in (None, 0, 1, 2):
                self.assertIs(wish.lets(1, value), value in values, (item, value))
                self.assertIs(wish.lets(value=value, at=1), value in values)
            for value in all_but([None, 0, 1, 2]):
                self.assertIs(wish.lets(1, value), False, repr(value))
                self.assertIs(wish.lets(0, value), False, repr(value))

    def test_met_by(self):
        wish = Wish("0", "~", "!", "1?")
        for column in product((None, 0, 1, 2), repeat=4):
            self.assertIs(wish.met_by(column), does_meet(column, wish.parts()), column)
        self.assertIs(wish.met_by(column=(0, None, 2, 1)), True)
        for column in ((), (0, None, 2), (0, None, 2, 1, 1), (0, None, True, 1)):
            self.assertIs(wish.met_by(column), False)

    def test_texts(self):
        for items in ([], ["0"], ["!", "~", "2?"], list(LETS)):
            text = " ".join(items)
            self.assertEqual([Wish(*items).text(), Wish.read(text), Wish.read(text=text).parts()],
                             [text, Wish(*items), items])
        for value in all_but(["", "0", "~"]):
            self.assertEqual(raised(Wish.read, value), ("InvalidText", 0, "form"), repr(value))
        for text in (" ", "0 ", " 0", "0  1", "0\n", "0,1", "01", "3", "0 x", "0\n1", "?0"):
            self.assertEqual(raised(Wish.read, text), ("InvalidText", 0, "form"), text)

    def test_equal(self):
        self.assertEqual(Wish("0", "?"), Wish("0", "?"))
        self.assertNotEqual(Wish("0", "?"), Wish("?", "0"))
        self.assertNotEqual(Wish("0"), Wish("0", "?"))
        self.assertEqual(Wish(), Wish())
        for value in any_values():
            self.assertIs(Wish() == value, False)
            self.assertIs(value == Wish(), False)
        self.assertIs(Wish("0") == ["0"], False)

    def test_told_lists_are_new(self):
        wish = Wish("0", "?")
        wish.parts().clear()
        self.assertEqual(wish.parts(), ["0", "?"])


class LeastColumnTest(unittest.TestCase):
    def test_three_rows(self):
        self.assertEqual(least_column(WITH_OR, Wish("1", "1", "0")), (1, 1, 0))
        self.assertEqual(least_column(WITH_OR, Wish("1", "1", "?")), (1, 1, None))
        self.assertEqual(least_column(PLAIN, Wish("1", "1", "?")), (1, 1, 1))
        self.assertEqual(least_column(wish=Wish("?", "?", "?"), sheet=PLAIN), (None, None, None))
        self.assertEqual(least_column(WITH_OR, Wish("!", "!", "!")), (0, 0, 0))
        self.assertEqual(least_column(WITH_OR, Wish("!", "1", "!")), (1, 1, 0))
        self.assertEqual(least_column(PLAIN, Wish("!", "1", "!")), (1, 1, 1))

    def test_how_the_one_choice_fails(self):
        self.assertEqual(raised(least_column, PLAIN, Wish("1", "1", "0")), ("Clash", (0, 1), 0, 2))
        self.assertEqual(raised(least_column, PLAIN, Wish("1", "1", "~")), ("Barred", 2, 1))
        self.assertEqual(raised(least_column, PLAIN, Wish("1", "1", "0?")), ("Barred", 2, 1))
        self.assertEqual(raised(least_column, PLAIN, Wish("0", "1", "?")), ("Clash", (0, 1), 0, 1))

    def test_when_all_choices_fail(self):
        self.assertEqual(raised(least_column, PLAIN, Wish("!", "!", "~")), ("NoChoice", 4))
        self.assertEqual(raised(least_column, PLAIN, Wish("1", "!", "~")), ("NoChoice", 2))
        self.assertEqual(raised(least_column, sheet_of(THREE_ROWS, Stock(signs=3)), Wish("!", "!", "~")),
                         ("NoChoice", 9))
        self.assertEqual(raised(wish_program, PLAIN, Wish("!", "!", "~")), ("NoChoice", 4))

    def test_agrees_with_the_definition(self):
        seen = {"goes": 0, "NoChoice": 0, "Clash": 0, "Barred": 0}
        for sheet, items in drawn_wishes(300, seed=25):
            wish = Wish(*items)
            columns = columns_of_stock(sheet.rows(), sheet.stock)
            meeting = [column for column in columns if does_meet(column, items)]
            choices = choices_of(items, sheet.stock.signs)
            told = [(choice, *failure_of(sheet, items, choice)) for choice in choices]
            going = [filling for _, filling, why in told if why is None]
            first = len(told) if not going else [why for _, _, why in told].index(None)
            self.assertEqual(list(choice_fails(sheet, wish)), [(choice, why) for choice, _, why in told[:first]])
            self.assertEqual(bool(going), bool(meeting))
            if going:
                seen["goes"] += 1
                self.assertEqual(least_column(sheet, wish), going[0])
                self.check_least(going[0], told[first][0], items, meeting)
                self.check_program(sheet, wish, going[0])
            else:
                error = ("NoChoice", len(choices)) if "!" in items else self.error_of(told[0][2])
                seen[error[0]] += 1
                raised_is(self, raised(least_column, sheet, wish), error)
                raised_is(self, raised(wish_program, sheet, wish), error)
            for row in range(len(items)):
                values = [value for value in (None, 0, 1, 2) if value in [column[row] for column in meeting]]
                self.assertEqual(may_be(sheet, wish, row), values)
        self.assertGreater(min(seen.values()), 3, seen)

    def error_of(self, why):
        return ("Clash", *why[1:]) if why[0] == "clash" else ("Barred", *why[1:])

    def check_least(self, filling, choice, items, meeting):
        """Each column that meets the wish and has the signs of the choice has all signs of the filling."""
        self.assertIn(filling, meeting)
        for column in meeting:
            if tuple(value for value, item in zip(column, items) if item == "!") == choice:
                self.assertTrue(is_under(filling, column))

    def check_program(self, sheet, wish, column):
        program = wish_program(sheet, wish)
        self.assertIsInstance(program, Program)
        self.assertEqual([program.stock, program.inputs], [sheet.stock, len(sheet.rows()[0])])
        self.assertEqual(program.column(sheet.rows()), column)
        self.assertTrue(wish.met_by(column))


class ChoiceFailsTest(unittest.TestCase):
    def test_three_rows(self):
        self.assertEqual(list(choice_fails(PLAIN, Wish("!", "!", "1"))),
                         [((0, 0), ("clash", (0, 1), 0, 2)), ((0, 1), ("clash", (0, 1), 0, 1)),
                          ((1, 0), ("clash", (0, 1), 0, 1))])
        self.assertEqual(list(choice_fails(wish=Wish("1", "!", "~"), sheet=PLAIN)),
                         [((0,), ("clash", (0, 1), 0, 1)), ((1,), ("row", 2, 1))])
        self.assertEqual(list(choice_fails(PLAIN, Wish("1", "1", "~"))), [((), ("row", 2, 1))])
        self.assertEqual(list(choice_fails(PLAIN, Wish("1", "1", "?"))), [])
        self.assertEqual(list(choice_fails(PLAIN, Wish("!", "?", "?"))), [])

    def test_a_generator_that_is_left(self):
        wish = Wish("!", "!", "1")
        started = choice_fails(PLAIN, wish)
        self.assertEqual(next(started), ((0, 0), ("clash", (0, 1), 0, 2)))
        self.assertEqual(len(list(choice_fails(PLAIN, wish))), 3)
        self.assertEqual(least_column(PLAIN, wish), (1, 1, 1))
        self.assertEqual(len(list(started)), 2)


class MayBeTest(unittest.TestCase):
    def test_three_rows(self):
        self.assertEqual(may_be(PLAIN, Wish("1", "1", "?"), 2), [1])
        self.assertEqual(may_be(WITH_OR, Wish("1", "1", "?"), 2), [None, 0, 1])
        self.assertEqual(may_be(row=0, wish=Wish("?", "1", "0"), sheet=WITH_OR), [None, 1])
        self.assertEqual(may_be(PLAIN, Wish("1", "1", "0"), 0), [])
        self.assertEqual(may_be(PLAIN, Wish("1", "!", "?"), 1), [1])
        self.assertEqual(may_be(sheet_of([(0,)], Stock(signs=3)), Wish("?"), 0), [None, 0, 1, 2])
        self.assertEqual(may_be(sheet_of([(0,)], Stock(signs=3)), Wish("2?"), 0), [None, 2])

    def test_told_lists_are_new(self):
        wish = Wish("?", "?", "?")
        may_be(PLAIN, wish, 0).clear()
        self.assertEqual(may_be(PLAIN, wish, 0), [None, 0, 1])

    def test_seven_rows(self):
        sheet = sheet_of([(0, None)] * 3 + [(1, 0)] * 4, Stock())
        self.assertEqual(least_column(sheet, Wish("!", "?", "?", "!", "?", "?", "1")), (0, 0, 0, 1, 1, 1, 1))
        self.assertEqual(may_be(sheet, Wish("!", "?", "?", "!", "?", "?", "1"), 4), [1])
        self.assertEqual(least_column(sheet, Wish(*["!"] * 7)), (0,) * 7)


class ErrorsTest(unittest.TestCase):
    def check(self, expected, sheet, wish):
        raised_is(self, raised(least_column, sheet, wish), expected)
        raised_is(self, raised(wish_program, sheet, wish), expected)
        generator = choice_fails(sheet, wish)
        raised_is(self, raised(next, generator), expected)
        for value in any_values():
            raised_is(self, raised(may_be, sheet, wish, value), expected)

    def test_numbers_of_items(self):
        for items in ([], ["2"], ["2", "2"], ["?"] * 4, ["2"] * 8):
            self.check(("Mismatch",), PLAIN, Wish(*items))

    def test_signs(self):
        self.check(("InvalidItem", 1), PLAIN, Wish("1", "2", "2?"))
        self.check(("InvalidItem", 2), PLAIN, Wish("1", "1", "2?"))
        self.check(("InvalidItem", 0), PLAIN, Wish("2", "!", "!"))
        sheet = sheet_of(THREE_ROWS, Stock(signs=3))
        self.assertEqual(least_column(sheet, Wish("2", "2?", "!")), (2, None, 0))

    def test_rows(self):
        for value in all_but([0, 1, 2]):
            raised_is(self, raised(may_be, PLAIN, Wish("1", "1", "0"), value), ("InvalidNumber", value))
        self.assertEqual(raised(may_be, PLAIN, Wish("?", "?", "?"), -1), ("InvalidNumber", -1))
        self.assertEqual(raised(may_be, PLAIN, Wish("?", "?", "?"), 3), ("InvalidNumber", 3))
