"""Nets: cells that may refer to themselves and to each other, and the values with which they come to rest."""

from neverboxes.checks import check_inputs, check_table_inputs
from neverboxes.composing import Writing
from neverboxes.errors import InvalidLine, InvalidNumber, InvalidRow, TooMany
from neverboxes.lines import is_line, line_value, references, with_references
from neverboxes.rows import every_row
from neverboxes.tables import Table
from neverboxes.values import is_number, is_row

MOST_CELLS = 16


def check_cells(cells, inputs, stock):
    if not isinstance(cells, (list, tuple)) or len(cells) == 0:
        raise InvalidLine(-1)
    if len(cells) > MOST_CELLS:
        raise TooMany("cells", len(cells))
    for at, cell in enumerate(cells):
        if not is_line(cell, len(cells), inputs, stock):
            raise InvalidLine(at)


class Net:
    def __init__(self, stock, inputs, cells):
        check_inputs(inputs)
        check_cells(cells, inputs, stock)
        self.stock = stock
        self.inputs = inputs
        self._cells = list(cells)

    def cells(self):
        return list(self._cells)

    def check_cell(self, cell):
        if not is_number(cell, 0, len(self._cells) - 1):
            raise InvalidNumber(cell)

    def check_given(self, row):
        if not is_row(row, self.inputs, self.stock.signs):
            raise InvalidRow(0)

    def fired_value(self, cell, row, values):
        """The value that a cell has behind its firing, if all cells have some values ahead of it."""
        return line_value(self._cells[cell], row, values, self.stock)

    def rest_values(self, row):
        self.check_given(row)
        values = [None] * len(self._cells)
        before = []
        while before != values:
            before = list(values)
            for cell in range(len(self._cells)):
                values[cell] = self.fired_value(cell, row, values)
        return tuple(values)

    def cell_table(self, cell):
        self.check_cell(cell)
        check_table_inputs(self.inputs, self.stock.signs)
        rows = every_row(self.inputs, signs=self.stock.signs)
        return Table.of_values(self.inputs, [self.rest_values(row)[cell] for row in rows], signs=self.stock.signs)

    def written(self, cell):
        self.check_cell(cell)
        writing = Writing(self.stock, self.inputs)
        ends = [writing.number_of(("never",))] * len(self._cells)
        # Behind as many rounds as there are cells the net is at rest.
        for _ in range(len(self._cells)):
            for at, line in enumerate(self._cells):
                ends[at] = writing.number_of(with_references(line, [ends[number] for number in references(line)]))
        return writing.program_at(ends[cell])

    def answering(self):
        check_table_inputs(self.inputs, self.stock.signs)
        rests = [self.rest_values(row) for row in every_row(self.inputs, signs=self.stock.signs)]
        return [cell for cell in range(len(self._cells)) if any([rest[cell] is not None for rest in rests])]

    def __len__(self):
        return len(self._cells)

    def __repr__(self):
        return f"Net({self.inputs} inputs, {len(self._cells)} cells)"
