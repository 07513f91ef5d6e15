"""Tables: what answers at which rows."""

from neverboxes.checks import check_signs, check_table_inputs
from neverboxes.errors import Conflict, InvalidCase, InvalidColumn, InvalidRow, Mismatch, TakenBack
from neverboxes.rows import every_row, next_above, next_below, rows_above, rows_fit
from neverboxes.values import is_row, is_sign, is_value


def is_case(value, inputs, signs):
    if not isinstance(value, tuple) or len(value) != 2:
        return False
    return is_row(value[0], inputs, signs) and is_sign(value[1], signs)


def first_conflict(cases, case):
    """The index of the first of some cases that conflicts with a case, None if there is none."""
    row, sign = case
    for at, (against, other) in enumerate(cases):
        if other != sign and rows_fit(against, row):
            return at
    return None


def check_cases(cases, inputs, signs):
    if not isinstance(cases, (list, tuple)):
        raise InvalidCase(-1)
    for at, case in enumerate(cases):
        if not is_case(case, inputs, signs):
            raise InvalidCase(at)


def values_given(cases, inputs, signs):
    """The dict from each row, in row order, to its value in the table that some cases give."""
    by_row = {row: None for row in every_row(inputs, signs=signs)}
    for second, (row, sign) in enumerate(cases):
        # Where the row has the sign already, all rows above it have it, too.
        if by_row[row] != sign:
            for above in rows_above(row, signs):
                if by_row[above] is not None and by_row[above] != sign:
                    raise Conflict(first_conflict(cases, (row, sign)), second)
                by_row[above] = sign
    return by_row


def least_cases(by_row):
    # An answer at a row below stays up to the rows next below, so these are enough to look at.
    answers = [(row, sign) for row, sign in by_row.items() if sign is not None]
    return [(row, sign) for row, sign in answers if all([by_row[lower] is None for lower in next_below(row)])]


def hang_rows(by_row, signs):
    hanging = [row for row, value in by_row.items() if value is None]
    return [row for row in hanging if all([by_row[above] is not None for above in next_above(row, signs)])]


def check_not_taken_back(by_row, signs):
    rows = list(by_row)
    for one, row in enumerate(rows):
        if by_row[row] is not None:
            for above in rows_above(row, signs):
                if by_row[above] != by_row[row]:
                    raise TakenBack(one, rows.index(above))


class Table:
    def __init__(self, inputs, cases, *, signs=2):
        check_signs(signs)
        check_table_inputs(inputs, signs)
        check_cases(cases, inputs, signs)
        self.inputs = inputs
        self.signs = signs
        self._by_row = values_given(cases, inputs, signs)
        self._least = least_cases(self._by_row)

    @property
    def least(self):
        return list(self._least)

    @property
    def hangs(self):
        return hang_rows(self._by_row, self.signs)

    def __call__(self, row):
        if not is_row(row, self.inputs, self.signs):
            raise InvalidRow(0)
        return self._by_row[row]

    def value_at(self, row):
        """The value at what is known to be a row of the table."""
        return self._by_row[row]

    def all_values(self):
        return list(self._by_row.values())

    def matches(self, other):
        return isinstance(other, Table) and self.inputs == other.inputs and self.signs == other.signs

    def below(self, other):
        if not self.matches(other):
            return False
        return all([value is None or value == other.value_at(row) for row, value in self._by_row.items()])

    def __eq__(self, other):
        return (isinstance(other, Table) and self.inputs == other.inputs and self.signs == other.signs
                and self._by_row == other._by_row)

    def __or__(self, other):
        if not self.matches(other):
            raise Mismatch()
        for first, case in enumerate(self._least):
            second = first_conflict(other.least, case)
            if second is not None:
                raise Conflict(first, second)
        return Table(self.inputs, self._least + other.least, signs=self.signs)

    def __and__(self, other):
        if not self.matches(other):
            raise Mismatch()
        answers = [(row, value) for row, value in self._by_row.items() if value is not None]
        cases = [(row, value) for row, value in answers if value == other.value_at(row)]
        return Table(self.inputs, cases, signs=self.signs)

    def __len__(self):
        return len(self._least)

    def __bool__(self):
        # Without it a table without cases would be false, as its length is 0.
        return True

    def __repr__(self):
        return f"Table({self.inputs} inputs, {len(self._least)} cases)"

    @staticmethod
    def of_values(inputs, values, *, signs=2):
        check_signs(signs)
        check_table_inputs(inputs, signs)
        rows = every_row(inputs, signs=signs)
        if not isinstance(values, (list, tuple)) or len(values) != len(rows):
            raise InvalidColumn()
        if not all([is_value(value, signs) for value in values]):
            raise InvalidColumn()
        by_row = {row: value for row, value in zip(rows, values)}
        check_not_taken_back(by_row, signs)
        return Table(inputs, [(row, value) for row, value in zip(rows, values) if value is not None], signs=signs)
