"""Wishes for columns, and the least columns that meet them."""

from neverboxes.errors import Barred, Clash, InvalidItem, InvalidNumber, InvalidText, Mismatch, NoChoice
from neverboxes.making import make
from neverboxes.values import is_number

MOST_SIGN = 2
HANGS = "~"
ANSWERS = "!"
LET_VALUES = {
    "0": (0,), "1": (1,), "2": (2,),
    "0?": (None, 0), "1?": (None, 1), "2?": (None, 2),
    "~": (None,), "!": (0, 1, 2), "?": (None, 0, 1, 2),
}
# The signs of the items that name one, and those of them that ask for it.
NAMED = {"0": 0, "1": 1, "2": 2, "0?": 0, "1?": 1, "2?": 2}
ASKED = {"0": 0, "1": 1, "2": 2}


def is_item(value):
    return isinstance(value, str) and value in LET_VALUES


class Wish:
    def __init__(self, *items):
        for at, item in enumerate(items):
            if not is_item(item):
                raise InvalidItem(at)
        self._items = list(items)

    def parts(self):
        return list(self._items)

    def lets(self, at, value):
        if value is not None and not is_number(value, 0, MOST_SIGN):
            return False
        return value in LET_VALUES[self._items[at]]

    def met_by(self, column):
        if not isinstance(column, tuple) or len(column) != len(self._items):
            return False
        return all([self.lets(at, value) for at, value in enumerate(column)])

    def text(self):
        return " ".join(self._items)

    @staticmethod
    def read(text):
        if not isinstance(text, str):
            raise InvalidText(0, "form")
        items = [] if text == "" else text.split(" ")
        if not all([is_item(item) for item in items]):
            raise InvalidText(0, "form")
        return Wish(*items)

    def __eq__(self, other):
        return isinstance(other, Wish) and self._items == other._items

    def __len__(self):
        return len(self._items)

    def __bool__(self):
        # Without it a wish without items would be false, as its length is 0.
        return True

    def __repr__(self):
        return f"Wish({self.text()})"


def check_wish(sheet, wish):
    if len(wish) != len(sheet.rows()):
        raise Mismatch()
    for at, item in enumerate(wish.parts()):
        if item in NAMED and NAMED[item] >= sheet.stock.signs:
            raise InvalidItem(at)


def every_choice(sheet, wish):
    """The list of all choices, in order."""
    choices = [()]
    for _ in range(wish.parts().count(ANSWERS)):
        choices = [choice + (sign,) for choice in choices for sign in range(sheet.stock.signs)]
    return choices


def column_of_choice(wish, choice):
    column = []
    chosen = 0
    for item in wish.parts():
        if item == ANSWERS:
            column.append(choice[chosen])
            chosen += 1
        else:
            column.append(ASKED.get(item))
    return tuple(column)


def tried(sheet, wish, choice):
    """The pair (column, why): the filling of a choice that goes and None, or None and why the choice fails."""
    try:
        column = sheet.filling(column_of_choice(wish, choice))
    except Clash as clash:
        return (None, ("clash", clash.lot, clash.one, clash.other))
    for row, value in enumerate(column):
        if not wish.lets(row, value):
            return (None, ("row", row, value))
    return (column, None)


def first_that_goes(sheet, wish):
    """The filling of the first choice that goes, None if none goes."""
    for choice in every_choice(sheet, wish):
        column = tried(sheet, wish, choice)[0]
        if column is not None:
            return column
    return None


def least_column(sheet, wish):
    check_wish(sheet, wish)
    column = first_that_goes(sheet, wish)
    if column is not None:
        return column
    if ANSWERS in wish.parts():
        raise NoChoice(len(every_choice(sheet, wish)))
    why = tried(sheet, wish, ())[1]
    if why[0] == "clash":
        raise Clash(why[1], why[2], why[3])
    raise Barred(why[1], why[2])


def choice_fails(sheet, wish):
    check_wish(sheet, wish)
    for choice in every_choice(sheet, wish):
        why = tried(sheet, wish, choice)[1]
        if why is None:
            return
        yield (choice, why)


def with_value(wish, row, value):
    """The wish that asks for a value at a row, and else for the same."""
    items = wish.parts()
    items[row] = HANGS if value is None else str(value)
    return Wish(*items)


def may_be(sheet, wish, row):
    check_wish(sheet, wish)
    if not is_number(row, 0, len(wish) - 1):
        raise InvalidNumber(row)
    values = [value for value in [None, *list(range(sheet.stock.signs))] if wish.lets(row, value)]
    return [value for value in values if first_that_goes(sheet, with_value(wish, row, value)) is not None]


def wish_program(sheet, wish):
    return make(sheet, least_column(sheet, wish))
