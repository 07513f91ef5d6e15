"""Values that several tests use, and the document's definitions worked out word by word."""

from itertools import product

from neverboxes.boxes import Box, Stock
from neverboxes.nets import Net
from neverboxes.programs import Program
from neverboxes.tables import Table

OR_CASES = (((None, 1), 1), ((1, None), 1), ((0, 0), 0))


def or_table(signs=2):
    return Table(2, OR_CASES, signs=signs)


def yes_table(signs=2):
    return Table(0, [((), 1)], signs=signs)


def not_table(signs=2):
    return Table(1, [((0,), 1), ((1,), 0)], signs=signs)


def or_stock(signs=2):
    return Stock(Box("or", or_table(signs)), Box("yes", yes_table(signs)), signs=signs)


def or_program():
    return Program(or_stock(), 2, [("input", 0), ("input", 1), ("box", "or", 0, 1)])


def deep_value(levels=14):
    value = 0
    for level in range(levels):
        value = [value] if level % 2 else (value,)
    return value


def any_values():
    """Values of every kind. None of them is a row, a list of numbers or a table that a test expects."""
    return [
        None, True, False, -1, 0, 1, 2, 3, 4, 8, 9, 999999999, -999999999,
        "", "or", "Or", "0", "~", ".", "input", "a b", "end\n",
        (), (0,), (1,), (None,), (True,), (False, 0), ((), 1), ((0,), 1), ("a",),
        [], [0], [None], [True], [(0,)], [[]],
        {}, {0: 1}, {"or": None}, {(0,): 1},
        deep_value(), or_table(), Box("or", or_table()), Stock(), or_program(),
    ]


def all_but(kept):
    """The values of every kind that a test does not keep; True and 1 are different here."""
    left = []
    for value in any_values():
        if not any(type(value) is type(other) and value == other for other in kept):
            left.append(value)
    return left


def rows_of(inputs, signs):
    return list(product([None, *range(signs)], repeat=inputs))


def is_under(one, other):
    return len(one) == len(other) and all(v is None or v == w for v, w in zip(one, other))


def do_fit(one, other):
    return len(one) == len(other) and all(v is None or w is None or v == w for v, w in zip(one, other))


def value_by_cases(cases, row):
    signs = {sign for low, sign in cases if is_under(low, row)}
    assert len(signs) < 2
    return signs.pop() if signs else None


def least_by_values(values):
    """The least cases of a dict from rows to values."""
    found = []
    for row, value in values.items():
        lower = [other for other in values if other != row and is_under(other, row)]
        if value is not None and all(values[other] is None for other in lower):
            found.append((row, value))
    return found


def hangs_by_values(values):
    found = []
    for row, value in values.items():
        upper = [other for other in values if other != row and is_under(row, other)]
        if value is None and all(values[other] is not None for other in upper):
            found.append(row)
    return found


def by_row(table):
    return dict(zip(rows_of(table.inputs, table.signs), table.all_values()))


def conflict_of(cases):
    for second, (row, sign) in enumerate(cases):
        for first, (other, against) in enumerate(cases[:second]):
            if do_fit(row, other) and sign != against:
                return first, second
    return None


def some_cases(chance, inputs, signs, many):
    """Cases drawn by a seeded random.Random; they may conflict."""
    return [
        (tuple(chance.choice([None, None, *range(signs)]) for _ in range(inputs)), chance.randrange(signs))
        for _ in range(many)
    ]


def some_table(chance, inputs, signs, many=6):
    kept = []
    for case in some_cases(chance, inputs, signs, many):
        if conflict_of(kept + [case]) is None:
            kept.append(case)
    return Table(inputs, kept, signs=signs)


def some_lines(chance, stock, inputs, many):
    lines = [("input", at) for at in range(inputs)] + [("never",)]
    while len(lines) < many:
        at = len(lines)
        word = chance.choice(["sign", "ask", "ask", "box", "box"])
        if word == "sign":
            lines.append(("sign", chance.randrange(stock.signs)))
        elif word == "ask":
            lines.append(("ask", *[chance.randrange(at) for _ in range(1 + stock.signs)]))
        elif len(stock) > 0:
            box = chance.choice(stock.boxes())
            lines.append(("box", box.name, *[chance.randrange(at) for _ in range(box.table.inputs)]))
    return lines


def value_by_lines(stock, lines, row, at=-1):
    """The value of a line, by going down its references; for short programs only."""
    line = lines[at]
    if line[0] == "input":
        return row[line[1]]
    if line[0] == "sign":
        return line[1]
    if line[0] == "never":
        return None
    if line[0] == "ask":
        test = value_by_lines(stock, lines, row, line[1])
        return None if test is None else value_by_lines(stock, lines, row, line[2 + test])
    told = tuple(value_by_lines(stock, lines, row, number) for number in line[2:])
    return stock.box(line[1]).table(told)


def line_by_values(stock, line, row, values):
    """The value of a line if the lines or cells that it refers to have some values."""
    if line[0] == "input":
        return row[line[1]]
    if line[0] in ("sign", "never"):
        return line[1] if line[0] == "sign" else None
    told = [values[number] for number in line[1 if line[0] == "ask" else 2:]]
    if line[0] == "box":
        return stock.box(line[1]).table(tuple(told))
    return None if told[0] is None else told[1 + told[0]]


def rest_of(net, row):
    """The rest values of a row: each cell is fired again and again, the last one first."""
    lines = net.cells()
    values = [None] * len(lines)
    for _ in range(len(lines) + 1):
        for at in reversed(range(len(lines))):
            values[at] = line_by_values(net.stock, lines[at], row, values)
    return tuple(values)


def drawn_nets(chance, many, most_inputs=3, most_cells=16):
    """Nets drawn by a seeded random.Random."""
    for _ in range(many):
        signs = chance.choice([2, 3])
        boxes = [Box(name, some_table(chance, chance.randrange(4), signs)) for name in "abc"[:chance.randrange(4)]]
        stock = Stock(*boxes, signs=signs)
        inputs = chance.randint(0, most_inputs)
        cells = []
        while len(cells) < chance.randint(1, most_cells):
            word = chance.choice(["input", "sign", "never", "ask", "ask", "box", "box"])
            if word == "input" and inputs > 0:
                cells.append(("input", chance.randrange(inputs)))
            elif word in ("sign", "never"):
                cells.append(("sign", chance.randrange(signs)) if word == "sign" else ("never",))
            elif word == "ask":
                cells.append(("ask", *[None] * (1 + signs)))
            elif word == "box" and boxes:
                box = chance.choice(boxes)
                cells.append(("box", box.name, *[None] * box.table.inputs))
        # The references are drawn when the number of cells is known.
        cells = [tuple(chance.randrange(len(cells)) if item is None else item for item in cell) for cell in cells]
        yield Net(stock, inputs, cells)


def raised(call, *args, **more):
    """The class name and the attributes of the error that a call raises."""
    try:
        call(*args, **more)
    except Exception as error:
        told = dict(vars(error))
        assert told.pop("code") == type(error).__name__
        return (type(error).__name__, *told.values())
    return None


def raised_is(test, told, expected):
    """Compares what raised tells, and the kinds of the numbers and booleans in it."""
    test.assertEqual(told, expected)
    test.assertEqual([type(item) for item in told], [type(item) for item in expected])
