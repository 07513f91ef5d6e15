"""Certificates: for a column that a program has it, against a column that no program can have it."""

from neverboxes.closed import fault
from neverboxes.errors import InvalidColumn, InvalidLot
from neverboxes.lots import answers_on, check_picks, check_rows, is_column, is_lot, is_pairs
from neverboxes.making import is_split, make
from neverboxes.programs import Program
from neverboxes.values import is_number


def check_list(rows, stock):
    check_rows(rows, stock.signs)
    check_picks(len(rows), stock)


def check_column(rows, stock, column):
    if not is_column(column, len(rows), stock.signs):
        raise InvalidColumn()


def check_lot(rows, lot):
    if not is_lot(lot, len(rows)):
        raise InvalidLot(lot)


def is_written_for(program, rows, stock):
    """Whether any value is a program for a list of rows that uses boxes of a stock alone."""
    if not isinstance(program, Program):
        return False
    if program.inputs != len(rows[0]) or program.stock.signs != stock.signs:
        return False
    return all([name in stock and program.stock.box(name) == stock.box(name) for name in program.used])


def closed_reaches(rows, stock, pairs):
    """The dict from the lots of a closed list of pairs to their reaches; empty for any value that is none."""
    if not is_pairs(pairs, len(rows)) or fault(rows, stock, pairs) is not None:
        return {}
    return {lot: reach for lot, reach in pairs}


def shows_column(rows, stock, column, program):
    check_list(rows, stock)
    check_column(rows, stock, column)
    return is_written_for(program, rows, stock) and program.column(rows) == column


def bars_column(rows, stock, column, value):
    check_list(rows, stock)
    check_column(rows, stock, column)
    if not isinstance(value, tuple) or len(value) != 4:
        return False
    pairs, lot, one, other = value
    if not is_lot(lot, len(rows)) or not answers_on(column, lot):
        return False
    if not all([is_number(row, 0, len(rows) - 1) for row in (one, other)]):
        return False
    reach = closed_reaches(rows, stock, pairs).get(lot, ())
    return one in reach and other in reach and column[one] is not None and column[one] != column[other]


def shows_open(rows, stock, lot, program):
    check_list(rows, stock)
    check_lot(rows, lot)
    return is_written_for(program, rows, stock) and is_split(program.column(rows), lot)


def shows_reach(rows, stock, lot, reach, pairs, program):
    check_list(rows, stock)
    check_lot(rows, lot)
    if not is_lot(reach, len(rows)) or not is_written_for(program, rows, stock):
        return False
    guarded = tuple([0 if row in reach else None for row in range(len(rows))])
    return program.column(rows) == guarded and closed_reaches(rows, stock, pairs).get(lot) == reach


def certificate(sheet, column):
    bent = sheet.broken(column)
    if bent is None:
        return ("made", make(sheet, column))
    return ("barred", (tuple(sheet.pairs()), *bent))
