"""Texts of stocks."""

from neverboxes.boxes import MOST_BOXES, Box, Stock
from neverboxes.checks import check_lines, most_table_inputs
from neverboxes.rows import read_row, row_text
from neverboxes.tables import Table, first_conflict
from neverboxes.values import DIGITS, is_name

HEADS = ("stock 2", "stock 3")


def stock_text(stock):
    lines = [f"stock {stock.signs}"]
    for box in stock.boxes():
        lines.append(f"box {box.name} {box.table.inputs}")
        for row, sign in box.table.least:
            lines.append(f"case {row_text(row)} {sign}")
    lines.append("end")
    return "".join([line + "\n" for line in lines])


def digit_up_to(word, most):
    """The number of a word that is a single digit up to a number, None for any other word."""
    if len(word) != 1 or word not in DIGITS or int(word) > most:
        return None
    return int(word)


class StockReading:
    """What has been read of a text of a stock so far."""

    def __init__(self):
        self.over = False
        self._signs = None
        self._names = []
        self._inputs = []
        self._cases = []

    def take(self, line):
        words = line.split(" ")
        if self.over:
            return "form"
        if self._signs is None:
            return self._take_head(line)
        if line == "end":
            self.over = True
            return ""
        if words[0] == "box" and len(words) == 3:
            return self._take_box(words[1], digit_up_to(words[2], most_table_inputs(self._signs)))
        if words[0] == "case" and len(words) == 3 and len(self._names) > 0:
            return self._take_case(read_row(words[1], signs=self._signs), digit_up_to(words[2], self._signs - 1))
        return "form"

    def _take_head(self, line):
        if line not in HEADS:
            return "form"
        self._signs = 2 + HEADS.index(line)
        return ""

    def _take_box(self, name, inputs):
        if not is_name(name) or inputs is None:
            return "form"
        if len(self._names) == MOST_BOXES:
            return "many"
        if name in self._names:
            return "double"
        self._names.append(name)
        self._inputs.append(inputs)
        self._cases.append([])
        return ""

    def _take_case(self, row, sign):
        if row is None or len(row) != self._inputs[-1] or sign is None:
            return "form"
        if first_conflict(self._cases[-1], (row, sign)) is not None:
            return "conflict"
        self._cases[-1].append((row, sign))
        return ""

    def whole_stock(self):
        boxes = []
        for name, inputs, cases in zip(self._names, self._inputs, self._cases):
            boxes.append(Box(name, Table(inputs, cases, signs=self._signs)))
        return Stock(*boxes, signs=self._signs)


def read_stock(text):
    reading = StockReading()
    check_lines(text, reading)
    return reading.whole_stock()
