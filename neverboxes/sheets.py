"""Sheets: which lots of a list of rows are forced for a stock, and what they reach."""

from neverboxes.asking import asking_pairs
from neverboxes.errors import InvalidColumn, UnknownLot
from neverboxes.filling import Fillings, fill_steps, filled
from neverboxes.lots import check_picks, check_rows, every_lot, first_broken, is_column, is_lot, kept_columns
from neverboxes.picks import PickSearch


class Sheet:
    def __init__(self, rows, stock, pairs, blows):
        self.stock = stock
        self._rows = list(rows)
        self._reaches = {lot: reach for lot, reach in pairs}
        self._blows = list(blows)

    def rows(self):
        return list(self._rows)

    def pairs(self):
        return list(self._reaches.items())

    def blow_list(self):
        """The list of the strikes and cuts that lead to the sheet, as Working tells them."""
        return list(self._blows)

    def reach(self, lot):
        if lot not in self:
            raise UnknownLot(lot)
        return self._reaches[lot]

    def __getitem__(self, at):
        return self.reach(at)

    def __iter__(self):
        raise TypeError("a sheet is not iterated over")

    def __contains__(self, x):
        # Any value may be asked for, and (True,) equals (1,) for Python.
        return is_lot(x, len(self._rows)) and x in self._reaches

    def open_lots(self):
        return [lot for lot in every_lot(len(self._rows)) if lot not in self._reaches]

    def check_column(self, column):
        if not is_column(column, len(self._rows), self.stock.signs):
            raise InvalidColumn()

    def keeps(self, column):
        return self.broken(column) is None

    def broken(self, column):
        self.check_column(column)
        return first_broken(column, self.pairs())

    def filling(self, column):
        self.check_column(column)
        return filled(self.pairs(), column)

    def steps(self, column):
        self.check_column(column)
        return fill_steps(self.pairs(), column)

    def column_list(self):
        """The list of the columns of the stock, in row order."""
        values = [None, *list(range(self.stock.signs))]
        return kept_columns(self.pairs(), [values] * len(self._rows))

    def number(self):
        return len(self.column_list())

    def every_column(self):
        for column in self.column_list():
            yield column

    def __eq__(self, other):
        return (isinstance(other, Sheet) and self.stock.signs == other.stock.signs
                and self._rows == other._rows and self._reaches == other._reaches)

    def __len__(self):
        return len(self._reaches)

    def __repr__(self):
        return f"Sheet({len(self._rows)} rows, {len(self._reaches)} pairs)"


class Working:
    """The work that leads from the pairs of a stock without boxes to the sheet.

    A blow is a tuple (lot, name, pick, left, columns, column) with the fillings and the outcome of a pick that
    strikes the pair of a lot, if left is None, or cuts it to the reach left.
    """

    def __init__(self, rows, stock):
        check_rows(rows, stock.signs)
        check_picks(len(rows), stock)
        self._many = len(rows)
        self._boxes = stock.boxes()
        self._left = {lot: reach for lot, reach in asking_pairs(rows, stock.signs)}
        self._fillings = Fillings(list(self._left.items()))
        self._done = []

    def finish(self):
        """Strikes and cuts until no pick strikes or cuts a pair, and tells the list of blows."""
        before = -1
        while before < len(self._done):
            before = len(self._done)
            for lot in list(self._left):
                for box in self._boxes:
                    self._work_on(lot, box)
        return list(self._done)

    def _work_on(self, lot, box):
        """Strikes and cuts the pair of a lot as long as some pick for a box does."""
        found = self._next_blow(lot, box)
        while found is not None:
            pick, columns, column, left = found
            self._done.append((lot, box.name, pick, left, columns, column))
            if left is None:
                del self._left[lot]
            else:
                self._left[lot] = left
            self._fillings = Fillings(list(self._left.items()))
            found = self._next_blow(lot, box)

    def _next_blow(self, lot, box):
        if lot not in self._left:
            return None
        return PickSearch(self._many, (lot, self._left[lot]), box, self._fillings).first_found()

    def pairs_left(self):
        return list(self._left.items())


def sheet_of(rows, stock):
    working = Working(rows, stock)
    blows = working.finish()
    return Sheet(rows, stock, working.pairs_left(), blows)


def strikes(rows, stock):
    for blow in Working(rows, stock).finish():
        yield blow[:4]
