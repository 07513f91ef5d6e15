"""Closed lists of pairs, and what keeps a list of pairs from being closed."""

from neverboxes.asking import columns_of_inputs
from neverboxes.errors import InvalidPairs
from neverboxes.filling import Fillings
from neverboxes.lots import check_picks, check_rows, is_pairs, keeps_pair
from neverboxes.picks import PickSearch


def input_fault(rows, pairs):
    columns = columns_of_inputs(rows)
    for lot, reach in pairs:
        for at, column in enumerate(columns):
            if not keeps_pair(column, (lot, reach)):
                return ("input", lot, at)
    return None


def pick_fault(count, stock, pairs):
    fillings = Fillings(pairs)
    for pair in pairs:
        for box in stock.boxes():
            found = PickSearch(count, pair, box, fillings).first_found()
            if found is not None:
                word = "strike" if found[3] is None else "cut"
                return (word, pair[0], box.name, found[0])
    return None


def fault(rows, stock, pairs):
    check_rows(rows, stock.signs)
    check_picks(len(rows), stock)
    if not is_pairs(pairs, len(rows)):
        raise InvalidPairs()
    found = input_fault(rows, pairs)
    return pick_fault(len(rows), stock, pairs) if found is None else found


def is_closed(rows, stock, pairs):
    return fault(rows, stock, pairs) is None
