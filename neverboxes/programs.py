"""Programs."""

from neverboxes.checks import check_inputs, check_table_inputs
from neverboxes.errors import InvalidLine, InvalidRow
from neverboxes.lines import is_line, line_value, references, with_references
from neverboxes.rows import every_row
from neverboxes.tables import Table
from neverboxes.values import is_row


def needed_numbers(lines):
    """The ascending list of the numbers of the needed lines."""
    needed = [False] * len(lines)
    needed[-1] = True
    for at in reversed(range(len(lines))):
        if needed[at]:
            for number in references(lines[at]):
                needed[number] = True
    return [at for at, is_needed in enumerate(needed) if is_needed]


def value_of_lines(lines, row, stock):
    values = []
    for line in lines:
        values.append(line_value(line, row, values, stock))
    return values[-1]


class Program:
    def __init__(self, stock, inputs, lines):
        check_inputs(inputs)
        if not isinstance(lines, (list, tuple)) or len(lines) == 0:
            raise InvalidLine(-1)
        for at, line in enumerate(lines):
            if not is_line(line, at, inputs, stock):
                raise InvalidLine(at)
        self.stock = stock
        self.inputs = inputs
        self._lines = list(lines)

    def lines(self):
        return list(self._lines)

    def __call__(self, row):
        if not is_row(row, self.inputs, self.stock.signs):
            raise InvalidRow(0)
        return value_of_lines(self._lines, row, self.stock)

    def column(self, rows):
        if not isinstance(rows, (list, tuple)):
            raise InvalidRow(-1)
        for at, row in enumerate(rows):
            if not is_row(row, self.inputs, self.stock.signs):
                raise InvalidRow(at)
        return tuple([value_of_lines(self._lines, row, self.stock) for row in rows])

    def as_table(self):
        check_table_inputs(self.inputs, self.stock.signs)
        values = self.column(every_row(self.inputs, signs=self.stock.signs))
        return Table.of_values(self.inputs, values, signs=self.stock.signs)

    @property
    def used(self):
        needed = [self._lines[number] for number in needed_numbers(self._lines)]
        return sorted(set([line[1] for line in needed if line[0] == "box"]))

    def pruned(self):
        needed = needed_numbers(self._lines)
        places = {number: place for place, number in enumerate(needed)}
        lines = []
        for number in needed:
            line = self._lines[number]
            lines.append(with_references(line, [places[reference] for reference in references(line)]))
        return Program(self.stock, self.inputs, lines)

    def __eq__(self, other):
        return (isinstance(other, Program) and self.stock == other.stock and self.inputs == other.inputs
                and self._lines == other._lines)

    def __len__(self):
        return len(self._lines)

    def __repr__(self):
        return f"Program({self.inputs} inputs, {len(self._lines)} lines)"
