"""Columns that help: rows that have them behind their inputs, and tables that have them."""

from neverboxes.checks import MOST_INPUTS, check_signs, check_table_inputs
from neverboxes.errors import InvalidColumn, Parted, TooMany
from neverboxes.lots import check_rows, is_column
from neverboxes.rows import is_below, rows_fit
from neverboxes.sheets import sheet_of
from neverboxes.tables import Table


def check_helpers(rows, columns, signs):
    if not isinstance(columns, (list, tuple)):
        raise InvalidColumn()
    if not all([is_column(column, len(rows), signs) for column in columns]):
        raise InvalidColumn()
    many = len(rows[0]) + len(columns)
    if many > MOST_INPUTS:
        raise TooMany("inputs", many)


def helped_rows(rows, columns):
    return [row + tuple([column[at] for column in columns]) for at, row in enumerate(rows)]


def with_helpers(rows, columns, signs):
    check_signs(signs)
    check_rows(rows, signs)
    check_helpers(rows, columns, signs)
    return helped_rows(rows, columns)


def helped_sheet(sheet, columns):
    rows = sheet.rows()
    check_helpers(rows, columns, sheet.stock.signs)
    return sheet_of(helped_rows(rows, columns), sheet.stock)


def adds_nothing(sheet, column):
    return sheet.keeps(column)


def do_part(rows, column, one, other):
    """Whether a column, which answers at row one, has a value at row other that no table with this answer lets."""
    if column[one] == column[other]:
        return False
    if column[other] is not None and rows_fit(rows[one], rows[other]):
        return True
    return is_below(rows[one], rows[other])


def check_not_parted(rows, column):
    for one in range(len(rows)):
        if column[one] is not None:
            for other in range(len(rows)):
                if do_part(rows, column, one, other):
                    raise Parted(one, other)


def table_behind(rows, column, signs):
    check_signs(signs)
    check_rows(rows, signs)
    if not is_column(column, len(rows), signs):
        raise InvalidColumn()
    check_table_inputs(len(rows[0]), signs)
    check_not_parted(rows, column)
    cases = [(row, sign) for row, sign in zip(rows, column) if sign is not None]
    return Table(len(rows[0]), cases, signs=signs)
