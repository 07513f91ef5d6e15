"""Which stock makes another one, and which boxes of a stock are enough."""

from neverboxes.boxes import Stock
from neverboxes.errors import InvalidPrices, Mismatch, NotMade
from neverboxes.lots import every_lot
from neverboxes.tablemaking import barred, check_match, check_test_lists, makes
from neverboxes.values import is_number

MOST_PRICE = 9999


def check_stocks(one, other):
    if not isinstance(one, Stock) or not isinstance(other, Stock) or one.signs != other.signs:
        raise Mismatch()


def check_boxes(one, other):
    """Checks whether one stock can be asked to make the boxes of the other."""
    for box in other.boxes():
        check_test_lists(box.table, one)


def makes_boxes(one, other):
    own = [box.table for box in one.boxes()]
    for box in other.boxes():
        # A stock makes its own boxes, so no sheet is needed for them.
        if box.table not in own and not makes(one, box.table):
            return False
    return True


def makes_stock(one, other):
    check_stocks(one, other)
    check_boxes(one, other)
    return makes_boxes(one, other)


def compare(one, other):
    check_stocks(one, other)
    check_boxes(one, other)
    check_boxes(other, one)
    if makes_boxes(one, other):
        return "alike" if makes_boxes(other, one) else "more"
    return "less" if makes_boxes(other, one) else "neither"


def spare_boxes(stock):
    check_boxes(stock, stock)
    return [box.name for box in stock.boxes() if makes(stock.without(box.name), box.table)]


def sets_in_order(stock):
    """The list of all sets of boxes of a stock, in set order."""
    names = stock.names()
    return [(), *[tuple([names[at] for at in places]) for places in every_lot(len(names))]]


def one_less(names):
    """The list of the sets with one box less."""
    return [names[:at] + names[at + 1:] for at in range(len(names))]


def least_sets(stock):
    check_boxes(stock, stock)
    enough = []
    least = []
    for names in sets_in_order(stock):
        # More boxes make at least as much, so such a set is enough, but not least.
        if any([smaller in enough for smaller in one_less(names)]):
            enough.append(names)
        elif makes_boxes(stock.only(names), stock):
            enough.append(names)
            least.append(names)
    return least


def are_prices(value, stock):
    """Whether any value is a dict from the names of the boxes, and no other keys, to prices."""
    if not isinstance(value, dict) or len(value) != len(stock):
        return False
    return all([name in value and is_number(value[name], 0, MOST_PRICE) for name in stock.names()])


def check_priced(stock, prices, table):
    check_match(table, stock)
    if not are_prices(prices, stock):
        raise InvalidPrices()
    check_test_lists(table, stock)


def sets_by_price(stock, prices):
    """The list of all sets of boxes, the cheaper ones first; those with equal sums are in set order."""
    priced = []
    for at, names in enumerate(sets_in_order(stock)):
        priced.append((sum([prices[name] for name in names]), at, names))
    return [told[2] for told in sorted(priced)]


def first_that_makes(stock, sets, table):
    """The first of some sets of boxes that makes a table, None if none does."""
    for names in sets:
        if makes(stock.only(names), table):
            return names
    return None


def cheapest(stock, prices, table):
    check_priced(stock, prices, table)
    bar = barred(table, stock)
    if bar is not None:
        listed, lot, one, other = bar
        raise NotMade(listed, lot, one, other)
    return first_that_makes(stock, sets_by_price(stock, prices), table)


def cheaper_sets(stock, prices, table):
    check_priced(stock, prices, table)
    for names in sets_by_price(stock, prices):
        bar = barred(table, stock.only(names))
        if bar is None:
            return
        yield (names, bar)
