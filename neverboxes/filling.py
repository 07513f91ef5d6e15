"""Columns that are filled by lists of pairs."""

from neverboxes.errors import Clash


def is_unfinished(column, lot, reach):
    """Whether a column answers on a lot and is not alike on its reach."""
    # Written as plain loops, as the search for strikes and cuts spends most of its time here.
    for row in lot:
        if column[row] is None:
            return False
    sign = column[lot[0]]
    for row in reach:
        if column[row] != sign:
            return True
    return False


def next_pair(pairs, column):
    """The pair with which the filling of a column goes on, None at its end."""
    for lot, reach in pairs:
        if is_unfinished(column, lot, reach):
            return (lot, reach)
    return None


def column_and_steps(pairs, column):
    """The filling of a column and the list of its steps."""
    values = list(column)
    steps = []
    pair = next_pair(pairs, values)
    while pair is not None:
        lot, reach = pair
        sign = values[lot[0]]
        others = [row for row in reach if values[row] is not None and values[row] != sign]
        if len(others) > 0:
            raise Clash(lot, lot[0], others[0])
        added = [row for row in reach if values[row] is None]
        for row in added:
            values[row] = sign
        steps.append((lot, tuple(added)))
        pair = next_pair(pairs, values)
    return tuple(values), steps


def filled(pairs, column):
    return column_and_steps(pairs, column)[0]


def fill_steps(pairs, column):
    return column_and_steps(pairs, column)[1]


class Fillings:
    """The fillings of columns by one list of pairs; each one is worked out once."""

    def __init__(self, pairs):
        self._pairs = list(pairs)
        self._known = {}

    def filling_of(self, column):
        """The filling of a column, None if it clashes."""
        if column not in self._known:
            try:
                self._known[column] = filled(self._pairs, column)
            except Clash:
                self._known[column] = None
        return self._known[column]
