"""Picks of least rows, their outcomes, and the pairs that they strike and cut."""

from neverboxes.errors import UnknownLot
from neverboxes.filling import Fillings
from neverboxes.lots import alike_on, is_lot


def every_pick(lot, box):
    rows = [row for row, _ in box.table.least]
    many = 1
    for _ in lot:
        many = many * len(rows)
    for number in range(many):
        pick = []
        left = number
        for _ in lot:
            left, place = divmod(left, len(rows))
            pick.append(rows[place])
        # The first row of the lot is to change last, like the first digit of a number.
        yield tuple(pick[::-1])


def told_columns(count, lot, box, pick):
    columns = []
    for at in range(box.table.inputs):
        told = {row: picked[at] for row, picked in zip(lot, pick)}
        columns.append(tuple([told.get(row) for row in range(count)]))
    return columns


def box_column(count, box, columns):
    """The column that a box has if its inputs have some columns."""
    rows = [tuple([column[number] for column in columns]) for number in range(count)]
    return tuple([box.table.value_at(row) for row in rows])


def outcome(count, pairs, lot, box, pick):
    fillings = Fillings(pairs)
    columns = [fillings.filling_of(column) for column in told_columns(count, lot, box, pick)]
    if None in columns:
        return None
    return box_column(count, box, columns)


def reach_left(column, pair):
    """The reach that an outcome leaves of a pair: None if it strikes the pair."""
    lot, reach = pair
    if not alike_on(column, lot):
        return None
    return tuple([row for row in reach if column[row] == column[lot[0]]])


def effect(count, pairs, lot, box, pick):
    # A lot is looked for only if it is one, as (True,) equals (1,) for Python.
    reaches = [reach for known, reach in pairs if known == lot] if is_lot(lot, count) else []
    if len(reaches) == 0:
        raise UnknownLot(lot)
    column = outcome(count, pairs, lot, box, pick)
    if column is None:
        return ("none", reaches[0])
    left = reach_left(column, (lot, reaches[0]))
    if left is None:
        return ("strike", ())
    return ("none" if left == reaches[0] else "cut", left)


class PickSearch:
    """Looks for the first pick for a lot and a box that strikes or cuts the pair of the lot.

    It builds picks row by row, and goes no further where the columns that are told so far clash already.
    """

    def __init__(self, count, pair, box, fillings):
        self._count = count
        self._pair = pair
        self._box = box
        self._fillings = fillings
        self._choices = [row for row, _ in box.table.least]

    def first_found(self):
        """The tuple (pick, columns, column, left): its fillings, its outcome, the reach left, None if struck."""
        nothing = (None,) * self._count
        return self._found_behind((), [nothing] * self._box.table.inputs)

    def _found_behind(self, pick, columns):
        lot, reach = self._pair
        if len(pick) == len(lot):
            column = box_column(self._count, self._box, columns)
            left = reach_left(column, self._pair)
            return None if left == reach else (pick, columns, column, left)
        number = lot[len(pick)]
        for row in self._choices:
            grown = self._grown(columns, number, row)
            if grown is not None:
                found = self._found_behind(pick + (row,), grown)
                if found is not None:
                    return found
        return None

    def _grown(self, columns, number, picked):
        """The fillings with the values of a picked row at one more row of the list, None if one clashes."""
        grown = []
        for column, value in zip(columns, picked):
            if value is not None and column[number] != value:
                # If the filling has another sign there, the pair that has given it now clashes.
                column = self._fillings.filling_of(column[:number] + (value,) + column[number + 1:])
                if column is None:
                    return None
            grown.append(column)
        return grown
