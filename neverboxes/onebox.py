"""The one box of a stock, which can be written with the stock and writes all of its boxes."""

from neverboxes.boxes import Box, Stock
from neverboxes.checks import check_table_inputs
from neverboxes.composing import Writing
from neverboxes.errors import InvalidName, UnknownName
from neverboxes.tables import Table
from neverboxes.values import is_name


def selecting_inputs(stock):
    """The number of the selecting inputs."""
    many = 0
    told_apart = 1
    while told_apart < len(stock):
        told_apart = told_apart * stock.signs
        many += 1
    return many


def all_inputs(stock):
    return selecting_inputs(stock) + max([box.table.inputs for box in stock.boxes()], default=0)


def digits_of(position, stock):
    """The signs of the selecting inputs at the position of a box, as a tuple."""
    digits = ()
    left = position
    for _ in range(selecting_inputs(stock)):
        left, digit = divmod(left, stock.signs)
        digits = (digit,) + digits
    return digits


def check_one_box(stock, name):
    if not is_name(name):
        raise InvalidName(name)
    check_table_inputs(all_inputs(stock), stock.signs)


def one_box(stock, name):
    check_one_box(stock, name)
    inputs = all_inputs(stock)
    cases = []
    for position, box in enumerate(stock.boxes()):
        digits = digits_of(position, stock)
        unused = (None,) * (inputs - len(digits) - box.table.inputs)
        cases.extend([(digits + row + unused, sign) for row, sign in box.table.least])
    return Box(name, Table(inputs, cases, signs=stock.signs))


def box_lines(stock, writing):
    """The list of the numbers of a line for each box, at the first inputs behind the selecting ones."""
    first = selecting_inputs(stock)
    numbers = []
    for box in stock.boxes():
        ends = [writing.number_of(("input", first + at)) for at in range(box.table.inputs)]
        numbers.append(writing.number_of(("box", box.name, *ends)))
    return numbers


def one_box_program(stock, name):
    check_one_box(stock, name)
    writing = Writing(stock, all_inputs(stock))
    ends = box_lines(stock, writing)
    never = writing.number_of(("never",))
    for at in reversed(range(selecting_inputs(stock))):
        # The last selecting input is the least significant digit: it tells neighbours apart.
        test = writing.number_of(("input", at))
        groups = [ends[first:first + stock.signs] for first in range(0, len(ends), stock.signs)]
        ends = []
        for group in groups:
            missing = [never] * (stock.signs - len(group))
            ends.append(writing.number_of(("ask", test, *group, *missing)))
    return writing.program_at(never if len(ends) == 0 else ends[0])


def picked_program(stock, name, box):
    one = one_box(stock, name)
    if box not in stock:
        raise UnknownName(box)
    inputs = stock.box(box).table.inputs
    digits = digits_of(stock.names().index(box), stock)
    writing = Writing(Stock(one, signs=stock.signs), inputs)
    ends = [writing.number_of(("sign", digit)) for digit in digits]
    ends.extend([writing.number_of(("input", at)) for at in range(inputs)])
    unused = one.table.inputs - len(ends)
    ends.extend([writing.number_of(("never",))] * unused)
    return writing.program_at(writing.number_of(("box", name, *ends)))
