"""Columns, sheets, fillings, outcomes and faults, worked out from the document's definitions for short lists."""

from itertools import combinations, product

from neverboxes.boxes import Box, Stock
from neverboxes.tables import Table
from tests.samples import by_row, is_under, least_by_values, or_table, rows_of, some_table

THREE_ROWS = [(1, None), (None, 1), (0, 0)]


def lots_of(count):
    return [lot for size in range(1, count + 1) for lot in combinations(range(count), size)]


def does_answer(column, lot):
    return all(column[row] is not None for row in lot)


def is_alike(column, lot):
    return does_answer(column, lot) and len({column[row] for row in lot}) == 1


def does_keep(column, pairs):
    return all(not does_answer(column, lot) or is_alike(column, reach) for lot, reach in pairs)


def break_of(column, pairs):
    for lot, reach in pairs:
        if not does_keep(column, [(lot, reach)]):
            return lot, lot[0], next(row for row in reach if column[row] != column[lot[0]])
    return None


def asks_of(test, known, signs):
    """The columns of all asks with a test and branches among known columns."""
    parts = []
    for sign in range(signs):
        # Only the rows at which the test has the sign count.
        parts.append({tuple(column[at] if value == sign else None for at, value in enumerate(test))
                      for column in known})
    return {tuple(next((value for value in told if value is not None), None) for told in zip(*branches))
            for branches in product(*parts)}


def columns_of_stock(rows, stock):
    """All columns of all programs: those of the inputs and signs, with all that asks and boxes make of them."""
    count, signs = len(rows), stock.signs
    new = {(value,) * count for value in [None, *range(signs)]}
    new |= {tuple(row[at] for row in rows) for at in range(len(rows[0]))}
    known = set()
    while new:
        known |= new
        found = set()
        for test in known:
            found |= asks_of(test, known, signs)
        for box in stock.boxes():
            values = by_row(box.table)
            for told in product(known, repeat=box.table.inputs):
                if not told or new.intersection(told):
                    found.add(tuple(values[tuple(column[at] for column in told)] for at in range(count)))
        new = found - known
    return known


def sheet_by_columns(count, columns):
    pairs = []
    for lot in lots_of(count):
        answering = [column for column in columns if does_answer(column, lot)]
        if all(is_alike(column, lot) for column in answering):
            reach = [row for row in range(count) if all(column[row] == column[lot[0]] for column in answering)]
            pairs.append((lot, tuple(reach)))
    return pairs


def least_keeping(column, pairs, signs):
    """The least column with all signs of a column that keeps all pairs; None if there is no such column."""
    upper = [other for other in rows_of(len(column), signs) if is_under(column, other) and does_keep(other, pairs)]
    least = [one for one in upper if all(is_under(one, other) for other in upper)]
    return least[0] if upper else None


def steps_by_definition(pairs, column):
    """The pair (filling, steps), or the tuple (lot, one, other) of the clash."""
    column, steps = list(column), []
    while True:
        found = [(lot, reach) for lot, reach in pairs if does_answer(column, lot) and not is_alike(column, reach)]
        if not found:
            return tuple(column), steps
        lot, reach = found[0]
        for row in reach:
            if column[row] not in (None, column[lot[0]]):
                return lot, lot[0], row
        steps.append((lot, tuple(row for row in reach if column[row] is None)))
        for row in reach:
            column[row] = column[lot[0]]


def picks_of(lot, box):
    rows = [row for row, _ in least_by_values(by_row(box.table))]
    return list(product(rows, repeat=len(lot)))


def outcome_by_definition(count, pairs, lot, box, pick):
    columns = []
    for at in range(box.table.inputs):
        column = [None] * count
        for row, picked in zip(lot, pick):
            column[row] = picked[at]
        columns.append(least_keeping(column, pairs, box.table.signs))
    if None in columns:
        return None
    return tuple(box.table(tuple(column[row] for column in columns)) for row in range(count))


def effect_by_definition(count, pairs, lot, box, pick):
    reach = dict(pairs)[lot]
    column = outcome_by_definition(count, pairs, lot, box, pick)
    if column is None or is_alike(column, reach):
        return "none", reach
    if not is_alike(column, lot):
        return "strike", ()
    return "cut", tuple(row for row in reach if column[row] == column[lot[0]])


def fault_by_definition(rows, stock, pairs):
    for pair in pairs:
        for at in range(len(rows[0])):
            if not does_keep(tuple(row[at] for row in rows), [pair]):
                return "input", pair[0], at
    for lot, _ in pairs:
        for box in stock.boxes():
            for pick in picks_of(lot, box):
                word, _ = effect_by_definition(len(rows), pairs, lot, box, pick)
                if word != "none":
                    return word, lot, box.name, pick
    return None


def some_pairs(chance, count, many=5):
    """A list of pairs, drawn by a seeded random.Random."""
    lots = chance.sample(lots_of(count), min(many, len(lots_of(count))))
    drawn = {}
    for lot in lots:
        drawn[lot] = tuple(row for row in range(count) if row in lot or chance.random() < 0.3)
    return [(lot, drawn[lot]) for lot in lots_of(count) if lot in drawn]


def some_column(chance, count, signs):
    return tuple(chance.choice([None, None, *range(signs)]) for _ in range(count))


def some_stock(chance, signs, most_inputs=2):
    names = "abc"[:chance.choice([0, 1, 1, 2])]
    boxes = [Box(name, some_table(chance, chance.randrange(most_inputs + 1), signs)) for name in names]
    return Stock(*boxes, signs=signs)


def telling_case(chance, signs, count, inputs=2):
    """A stock and rows at which its boxes tell something: rows of a table, its least rows and its hang rows."""
    while True:
        tables = [some_table(chance, inputs, signs), or_table(signs), and_table(signs)]
        drawn = chance.sample(tables, chance.choice([1, 2]))
        stock = Stock(*[Box(name, table) for name, table in zip("ab", drawn)], signs=signs)
        table = chance.choice(drawn)
        told = [row for row, _ in table.least] + table.hangs
        if len(table) > 1:
            return stock, [chance.choice(told) for _ in range(count)]


def and_table(signs=2):
    return Table(2, [((None, 0), 0), ((0, None), 0), ((1, 1), 1)], signs=signs)


def gustave_table():
    """A table that no stock without boxes makes, and with which or is not made."""
    return Table(3, [((0, 1, None), 1), ((1, None, 0), 1), ((None, 0, 1), 1)])


def layer_table(many, sign=1):
    """A table of five inputs with so many least rows, at most 80."""
    rows = [row for row in rows_of(5, 2) if row.count(None) == 1]
    return Table(5, [(row, sign) for row in rows[:many]])
