"""Functions that may call themselves and each other, in books."""

from neverboxes.boxes import Box, Stock
from neverboxes.errors import DuplicateName, InvalidFunction, InvalidInputs, InvalidLine, InvalidName, InvalidRow
from neverboxes.errors import TooMany, UnknownName, WrongLine
from neverboxes.lines import are_references, is_line, line_value
from neverboxes.rows import every_row
from neverboxes.tables import Table
from neverboxes.values import is_name, is_number, is_row

MOST_FUNCTION_INPUTS = 5
MOST_FUNCTIONS = 6
MOST_FUNCTION_ROWS = 32


class Function:
    def __init__(self, name, inputs, lines):
        if not is_name(name):
            raise InvalidName(name)
        if not is_number(inputs, 0, MOST_FUNCTION_INPUTS):
            raise InvalidInputs(inputs)
        if not isinstance(lines, (list, tuple)) or len(lines) == 0:
            raise InvalidLine(-1)
        self.name = name
        self.inputs = inputs
        self._lines = list(lines)

    def lines(self):
        return list(self._lines)


def number_of_rows(function, stock):
    rows = 1
    for _ in range(function.inputs):
        rows = rows * (stock.signs + 1)
    return rows


def by_names(functions, stock):
    """The dict from the names of some functions to the functions, in order."""
    found = {}
    for function in functions:
        if function.name in found or function.name in stock:
            raise DuplicateName(function.name)
        found[function.name] = function
    return found


def is_call(value, at, functions):
    """Whether any value is a call of a function of a book, with references to earlier lines."""
    if not isinstance(value, tuple) or len(value) < 2 or value[0] != "call":
        return False
    if not isinstance(value[1], str) or value[1] not in functions:
        return False
    return len(value) == 2 + functions[value[1]].inputs and are_references(value[2:], at)


def check_function(function, functions, stock):
    for at, line in enumerate(function.lines()):
        if not is_line(line, at, function.inputs, stock) and not is_call(line, at, functions):
            raise WrongLine(function.name, at)


def check_functions(functions, stock):
    """Checks the functions of a book, and tells the dict from their names to them."""
    for at, function in enumerate(functions):
        if not isinstance(function, Function):
            raise InvalidFunction(at)
    if len(functions) > MOST_FUNCTIONS:
        raise TooMany("functions", len(functions))
    found = by_names(functions, stock)
    for function in functions:
        if number_of_rows(function, stock) > MOST_FUNCTION_ROWS:
            raise TooMany("rows", number_of_rows(function, stock))
    for function in functions:
        check_function(function, found, stock)
    return found


def value_in_round(lines, row, stock, before):
    """The value of the last of some lines, if calls have the values of the round before."""
    values = []
    for line in lines:
        if line[0] == "call":
            called = tuple([values[number] for number in line[2:]])
            values.append(before[line[1]][called])
        else:
            values.append(line_value(line, row, values, stock))
    return values[-1]


def values_behind(functions, stock, before):
    """The dict from each name to the dict from rows to values, one round later."""
    behind = {}
    for name, function in functions.items():
        lines = function.lines()
        behind[name] = {}
        for row, value in before[name].items():
            # An answer stays, so it need not be worked out again.
            behind[name][row] = value_in_round(lines, row, stock, before) if value is None else value
    return behind


def every_round(functions, stock):
    """The list of what the functions have in round 0 and behind each round that changes something."""
    now = {}
    for name, function in functions.items():
        now[name] = {row: None for row in every_row(function.inputs, signs=stock.signs)}
    rounds = [now]
    behind = values_behind(functions, stock, now)
    while behind != rounds[-1]:
        rounds.append(behind)
        behind = values_behind(functions, stock, behind)
    return rounds


class Book:
    def __init__(self, stock, *functions):
        self.stock = stock
        self._functions = check_functions(functions, stock)
        self._states = every_round(self._functions, stock)

    def names(self):
        return list(self._functions)

    @property
    def rounds(self):
        return len(self._states) - 1

    def check_name(self, name):
        if not isinstance(name, str) or name not in self._functions:
            raise UnknownName(name)

    def check_row(self, name, row):
        self.check_name(name)
        if not is_row(row, self._functions[name].inputs, self.stock.signs):
            raise InvalidRow(0)

    def function_table(self, name):
        self.check_name(name)
        values = list(self._states[-1][name].values())
        return Table.of_values(self._functions[name].inputs, values, signs=self.stock.signs)

    def box(self, name):
        return Box(name, self.function_table(name))

    def answer_of(self, name, row):
        self.check_row(name, row)
        return self._states[-1][name][row]

    def round_of(self, name, row):
        self.check_row(name, row)
        for at, state in enumerate(self._states):
            if state[name][row] is not None:
                return at
        return None

    def full_stock(self):
        boxes = [*self.stock.boxes(), *[self.box(name) for name in self._functions]]
        return Stock(*boxes, signs=self.stock.signs)

    def __len__(self):
        return len(self._functions)

    def __bool__(self):
        # Without it a book without functions would be false, as its length is 0.
        return True

    def __repr__(self):
        return f"Book({len(self._functions)} functions)"
