"""Lists of rows of which only some values of a column were seen."""

from neverboxes.errors import AlreadySeen, Barred, Clash, InvalidNumber, InvalidValue, NotSeen
from neverboxes.filling import filled
from neverboxes.lots import kept_columns
from neverboxes.making import make
from neverboxes.values import is_number, is_value


def check_agree(sheet, seen):
    """Checks whether seen values agree; seen is the dict from rows to them."""
    column = [seen.get(row) for row in range(len(sheet.rows()))]
    filling = filled(sheet.pairs(), column)
    for row in sorted(seen):
        if seen[row] is None and filling[row] is not None:
            raise Barred(row, filling[row])


def do_agree(sheet, seen):
    try:
        check_agree(sheet, seen)
    except (Clash, Barred):
        return False
    return True


def shares_at(columns, row, values):
    """The dict from those of some values that columns have at a row to the numbers of these columns."""
    found = [column[row] for column in columns]
    return {value: found.count(value) for value in values if value in found}


class HalfSeen:
    def __init__(self, sheet):
        self.sheet = sheet
        self._seen = {}

    def check_number(self, row):
        if not is_number(row, 0, len(self.sheet.rows()) - 1):
            raise InvalidNumber(row)

    def see(self, row, value):
        self.check_number(row)
        if not is_value(value, self.sheet.stock.signs):
            raise InvalidValue(value)
        if row in self._seen and self._seen[row] != value:
            raise AlreadySeen(row)
        check_agree(self.sheet, {**self._seen, row: value})
        self._seen[row] = value

    def unsee(self, row):
        if not is_number(row, 0, len(self.sheet.rows()) - 1) or row not in self._seen:
            raise NotSeen(row)
        del self._seen[row]

    def seen(self):
        return {row: self._seen[row] for row in sorted(self._seen)}

    def every_value(self):
        """The list of all values, in value order."""
        return [None, *list(range(self.sheet.stock.signs))]

    def fitting(self):
        """The list of the columns that fit, in row order."""
        choices = [self.every_value() for _ in self.sheet.rows()]
        choices = [[self._seen[row]] if row in self._seen else values for row, values in enumerate(choices)]
        return kept_columns(self.sheet.pairs(), choices)

    def every_shares(self):
        """The list of the shares of all rows."""
        columns = self.fitting()
        return [shares_at(columns, row, self.every_value()) for row in range(len(self.sheet.rows()))]

    def possible(self, row):
        return list(self.shares(row))

    @property
    def sure(self):
        shares = self.every_shares()
        return {row: list(told)[0] for row, told in enumerate(shares) if len(told) == 1}

    def open_rows(self):
        return [row for row, told in enumerate(self.every_shares()) if len(told) > 1]

    def number(self):
        return len(self.fitting())

    def shares(self, row):
        self.check_number(row)
        return shares_at(self.fitting(), row, self.every_value())

    def next_row(self):
        shares = self.every_shares()
        ranked = [(max(list(told.values())), row) for row, told in enumerate(shares) if len(told) > 1]
        return min(ranked)[1] if len(ranked) > 0 else None

    def parting(self, row):
        if not is_number(row, 0, len(self.sheet.rows()) - 1) or row not in self.open_rows():
            raise InvalidNumber(row)
        columns = self.fitting()
        others = [column for column in columns if column[row] != columns[0][row]]
        return (make(self.sheet, columns[0]), make(self.sheet, others[0]))

    def twin(self):
        other = HalfSeen(self.sheet)
        for row, value in self.seen().items():
            other.see(row, value)
        return other

    def __len__(self):
        return len(self._seen)

    def __bool__(self):
        # Without it a half-seen list without seen values would be false, as its length is 0.
        return True

    def __repr__(self):
        return f"HalfSeen({len(self._seen)} of {len(self.sheet.rows())} rows)"
