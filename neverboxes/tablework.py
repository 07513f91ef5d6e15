"""Tables that are made from tables, and rows that tell two tables apart."""

from neverboxes.checks import check_table_inputs
from neverboxes.errors import InvalidNumber, InvalidOrder, InvalidPlaces, InvalidValue, Mismatch
from neverboxes.rows import answers_in, every_row
from neverboxes.tables import Table
from neverboxes.values import is_number, is_sign, is_value


def check_order(order, signs):
    if not isinstance(order, (list, tuple)) or not all([is_sign(sign, signs) for sign in order]):
        raise InvalidOrder()
    if sorted(order) != list(range(signs)):
        raise InvalidOrder()


def check_input_number(at, table):
    if not is_number(at, 0, table.inputs - 1):
        raise InvalidNumber(at)


def table_at(table, inputs, rows):
    """The table with so many inputs that has at each row the value of a table at the row in its place."""
    return Table.of_values(inputs, [table.value_at(row) for row in rows], signs=table.signs)


def wired(table, places, inputs):
    check_table_inputs(inputs, table.signs)
    if not isinstance(places, (list, tuple)) or len(places) != table.inputs:
        raise InvalidPlaces()
    if not all([is_number(place, 0, inputs - 1) for place in places]):
        raise InvalidPlaces()
    rows = every_row(inputs, signs=table.signs)
    return table_at(table, inputs, [tuple([row[place] for place in places]) for row in rows])


def fixed(table, at, value):
    check_input_number(at, table)
    if not is_value(value, table.signs):
        raise InvalidValue(value)
    rows = every_row(table.inputs - 1, signs=table.signs)
    return table_at(table, table.inputs - 1, [row[:at] + (value,) + row[at:] for row in rows])


def turned(table, order):
    check_order(order, table.signs)
    cases = [(row, order[sign]) for row, sign in table.least]
    return Table(table.inputs, cases, signs=table.signs)


def row_turned(row, at, order):
    if row[at] is None:
        return row
    return row[:at] + (order[row[at]],) + row[at + 1:]


def turned_input(table, at, order):
    check_input_number(at, table)
    check_order(order, table.signs)
    rows = every_row(table.inputs, signs=table.signs)
    return table_at(table, table.inputs, [row_turned(row, at, order) for row in rows])


def parting_row(one, other):
    if not isinstance(one, Table) or not one.matches(other):
        raise Mismatch()
    rows = every_row(one.inputs, signs=one.signs)
    parting = [row for row in rows if one.value_at(row) != other.value_at(row)]
    # Of several rows with the fewest answers min takes the first one, and the rows are in row order.
    return min(parting, key=answers_in, default=None)
