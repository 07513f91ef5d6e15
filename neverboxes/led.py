"""Sheets that are led over to other lists of rows, and rows that programs make."""

from neverboxes.checks import MOST_INPUTS
from neverboxes.errors import InvalidNumber, InvalidPlaces, InvalidPrograms, InvalidRow
from neverboxes.programs import Program
from neverboxes.sheets import sheet_of
from neverboxes.tablework import check_order, row_turned
from neverboxes.values import is_number, is_row


def check_numbers(numbers, many):
    """Checks whether any value is a list or tuple of numbers below a number."""
    if not isinstance(numbers, (list, tuple)):
        raise InvalidPlaces()
    if not all([is_number(number, 0, many - 1) for number in numbers]):
        raise InvalidPlaces()


def inputs_of(sheet):
    return len(sheet.rows()[0])


def left_out(sheet, numbers):
    rows = sheet.rows()
    check_numbers(numbers, len(rows))
    if len(set(numbers)) != len(numbers) or len(numbers) == len(rows):
        raise InvalidPlaces()
    return sheet_of([row for at, row in enumerate(rows) if at not in numbers], sheet.stock)


def row_added(sheet, row):
    if not is_row(row, inputs_of(sheet), sheet.stock.signs):
        raise InvalidRow(0)
    return sheet_of([*sheet.rows(), row], sheet.stock)


def reordered(sheet, order):
    rows = sheet.rows()
    # What is asked of an order of signs is asked of an order of rows, too.
    check_order(order, len(rows))
    return sheet_of([rows[at] for at in order], sheet.stock)


def rewired(sheet, places):
    check_numbers(places, inputs_of(sheet))
    if len(places) > MOST_INPUTS:
        raise InvalidPlaces()
    return sheet_of([tuple([row[place] for place in places]) for row in sheet.rows()], sheet.stock)


def signs_exchanged(sheet, at, order):
    if not is_number(at, 0, inputs_of(sheet) - 1):
        raise InvalidNumber(at)
    check_order(order, sheet.stock.signs)
    return sheet_of([row_turned(row, at, order) for row in sheet.rows()], sheet.stock)


def made_rows(rows, programs):
    if not isinstance(programs, (list, tuple)) or len(programs) > MOST_INPUTS:
        raise InvalidPrograms(-1)
    for at, program in enumerate(programs):
        if not isinstance(program, Program) or program.inputs != len(rows[0]):
            raise InvalidPrograms(at)
    columns = [program.column(rows) for program in programs]
    return [tuple([column[at] for column in columns]) for at in range(len(rows))]
