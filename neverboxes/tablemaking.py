"""Which tables a stock makes, and programs for them."""

from neverboxes.boxes import Stock
from neverboxes.composing import Writing
from neverboxes.errors import Mismatch, NotMade, TooMany
from neverboxes.lots import MOST_ROWS, check_picks
from neverboxes.making import make
from neverboxes.programs import Program
from neverboxes.sheets import sheet_of
from neverboxes.tables import Table


def test_lists(table):
    rows = [row for row, _ in table.least]
    if len(rows) == 0:
        return []
    return [rows, *[[*rows, hanging] for hanging in table.hangs]]


def check_match(table, stock):
    if not isinstance(table, Table) or not isinstance(stock, Stock) or table.signs != stock.signs:
        raise Mismatch()


def check_test_lists(table, stock):
    """Checks whether the test lists of a table are such that a stock can have sheets of them."""
    many = max([len(rows) for rows in test_lists(table)], default=0)
    if many > MOST_ROWS:
        raise TooMany("rows", many)
    check_picks(many, stock)


def check_makeable(table, stock):
    """Checks what stands ahead of asking whether a stock makes a table."""
    check_match(table, stock)
    check_test_lists(table, stock)


def column_of(table, rows):
    return tuple([table.value_at(row) for row in rows])


def bar_of(table, sheet):
    """What the sheet of a test list says against a table, None if nothing."""
    rows = sheet.rows()
    bent = sheet.broken(column_of(table, rows))
    return None if bent is None else (tuple(rows), *bent)


def barred(table, stock):
    check_makeable(table, stock)
    for rows in test_lists(table):
        bar = bar_of(table, sheet_of(rows, stock))
        if bar is not None:
            return bar
    return None


def makes(stock, table):
    return barred(table, stock) is None


def sheets_that_let(table, stock):
    """The sheets of the test lists, if none of them bars the table."""
    sheets = []
    for rows in test_lists(table):
        sheet = sheet_of(rows, stock)
        bar = bar_of(table, sheet)
        if bar is not None:
            listed, lot, one, other = bar
            raise NotMade(listed, lot, one, other)
        sheets.append(sheet)
    return sheets


def asked_in_turn(programs):
    """The program that asks all but the first of some programs, and goes on to the first one whatever they answer."""
    stock = programs[0].stock
    writing = Writing(stock, programs[0].inputs)
    ends = [writing.put_as_it_is(program) for program in programs]
    end = ends[0]
    for test in ends[1:]:
        branches = [end] * stock.signs
        end = writing.number_of(("ask", test, *branches))
    return writing.program_at(end)


def make_table(table, stock):
    check_makeable(table, stock)
    if len(table) == 0:
        return Program(stock, table.inputs, [("never",)])
    sheets = sheets_that_let(table, stock)
    return asked_in_turn([make(sheet, column_of(table, sheet.rows())) for sheet in sheets])
