"""What a table lets be asked at its rows, and the rows at which asking is stuck."""

from neverboxes.errors import InvalidRow
from neverboxes.rows import every_row, joined, rows_above, rows_fit
from neverboxes.values import is_row


def answering_above(table, row):
    """The list of the rows above a row at which a table answers."""
    return [above for above in rows_above(row, table.signs) if table.value_at(above) is not None]


def inputs_to_ask(row, above):
    """The ascending list of the inputs that hang in a row and answer in all of some rows above it."""
    hanging = [at for at, value in enumerate(row) if value is None]
    return [at for at in hanging if all([other[at] is not None for other in above])]


def askable(table, row):
    if not is_row(row, table.inputs, table.signs):
        raise InvalidRow(0)
    above = answering_above(table, row)
    if table.value_at(row) is not None or len(above) == 0:
        return []
    return inputs_to_ask(row, above)


def is_stuck(table, row):
    if table.value_at(row) is not None:
        return False
    above = answering_above(table, row)
    return len(above) > 0 and len(inputs_to_ask(row, above)) == 0


def stuck_rows(table):
    return [row for row in every_row(table.inputs, signs=table.signs) if is_stuck(table, row)]


def needs_no_box(table):
    return len(stuck_rows(table)) == 0


def stuck_list(table, row):
    if not is_row(row, table.inputs, table.signs) or not is_stuck(table, row):
        raise InvalidRow(0)
    fitting = [least for least, _ in table.least if rows_fit(least, row)]
    rows = []
    for at, value in enumerate(row):
        if value is None:
            # As the input is not askable, it hangs in some row above at which the table answers.
            firsts = [least for least in fitting if least[at] is None]
            rows.append(joined(row, firsts[0]))
    return [*rows, row]
