"""Lines: what lines of programs are, what they refer to, how they are written, and their values."""

from neverboxes.values import is_number, is_sign


def are_references(items, at):
    return all([is_number(item, 0, at - 1) for item in items])


def is_box_line(items, at, stock):
    if len(items) == 0 or items[0] not in stock:
        return False
    return len(items) == 1 + stock.box(items[0]).table.inputs and are_references(items[1:], at)


def is_line(value, at, inputs, stock):
    if not isinstance(value, tuple) or len(value) == 0:
        return False
    word = value[0]
    items = value[1:]
    if word == "input":
        return len(items) == 1 and is_number(items[0], 0, inputs - 1)
    if word == "sign":
        return len(items) == 1 and is_sign(items[0], stock.signs)
    if word == "never":
        return len(items) == 0
    if word == "ask":
        return len(items) == 1 + stock.signs and are_references(items, at)
    return word == "box" and is_box_line(items, at, stock)


def references(line):
    if line[0] == "ask":
        return list(line[1:])
    if line[0] in ("box", "call"):
        return list(line[2:])
    return []


def with_references(line, numbers):
    """The line with other references: they always stand at its end."""
    return line[:len(line) - len(numbers)] + tuple(numbers)


def line_text(line):
    return " ".join([str(item) for item in line])


def line_value(line, row, values, stock):
    word = line[0]
    if word == "box":
        table = stock.box(line[1]).table
        return table.value_at(tuple([values[number] for number in line[2:]]))
    if word == "ask":
        sign = values[line[1]]
        return None if sign is None else values[line[2 + sign]]
    if word == "input":
        return row[line[1]]
    return line[1] if word == "sign" else None
