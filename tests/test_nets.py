import random
import unittest

from neverboxes.boxes import Box, Stock
from neverboxes.functions import Book, Function
from neverboxes.nets import Net
from neverboxes.programs import Program
from neverboxes.tablemaking import makes
from neverboxes.tables import Table
from tests.definitions import and_table
from tests.samples import (
    all_but, any_values, drawn_nets, line_by_values, not_table, or_stock, or_table, raised, raised_is, rest_of,
    rows_of, yes_table,
)

OR = Stock(Box("or", or_table()))
NO = Stock(Box("or", or_table()), Box("no", not_table()), Box("yes", yes_table()))
# The second cell holds on to the first 1: it is the or of the input and of itself.
HOLD = Net(OR, 1, [("input", 0), ("box", "or", 0, 1)])


def chain_net(many, inputs=1):
    """A net in which each cell has the value of the one behind it, so that rest takes as many rounds as cells."""
    return Net(Stock(), inputs, [*[("ask", at + 1, at + 1, at + 1) for at in range(many - 1)], ("input", inputs - 1)])


def drawn_rest(chance, net, row):
    """The values behind firings in a drawn order that goes on as long as some cell would change."""
    values = [None] * len(net)
    lines = net.cells()
    while True:
        ready = [at for at, line in enumerate(lines) if line_by_values(net.stock, line, row, values) != values[at]]
        if not ready:
            return tuple(values)
        cell = chance.choice([*ready, chance.randrange(len(lines))])
        values[cell] = line_by_values(net.stock, lines[cell], row, values)


class NetTest(unittest.TestCase):
    def test_told(self):
        net = Net(cells=(("input", 1), ("box", "or", 1, 0), ("never",)), inputs=2, stock=OR)
        self.assertEqual([net.stock, net.inputs, len(net)], [OR, 2, 3])
        self.assertEqual(net.cells(), [("input", 1), ("box", "or", 1, 0), ("never",)])
        self.assertEqual(repr(net), "Net(2 inputs, 3 cells)")
        self.assertEqual(repr(Net(Stock(), 0, [("never",)])), "Net(0 inputs, 1 cells)")

    def test_values_of_a_ring(self):
        self.assertEqual([HOLD.rest_values((value,)) for value in (None, 0, 1)], [(None, None), (0, None), (1, 1)])
        self.assertEqual(HOLD.rest_values(row=(1,)), (1, 1))
        # Two cells that wait for each other hang, but an or of them and of an input does not wait.
        ring = Net(OR, 1, [("ask", 1, 1, 1), ("box", "or", 0, 2), ("input", 0)])
        self.assertEqual([ring.rest_values((0,)), ring.rest_values((1,))], [(None, None, 0), (1, 1, 1)])

    def test_one_cell(self):
        for cell, expected in ((("never",), None), (("sign", 1), 1), (("ask", 0, 0, 0), None), (("box", "no", 0), None),
                               (("box", "or", 0, 0), None), (("box", "yes"), 1), (("input", 0), 0)):
            net = Net(NO, 1, [cell])
            self.assertEqual(net.rest_values((0,)), (expected,))
            self.assertEqual(net.written(0)((0,)), expected)
            self.assertEqual(net.answering(), [] if expected is None else [0])

    def test_a_cell_that_answers_without_what_it_refers_to(self):
        always = Table(1, [((None,), 1)])
        net = Net(Stock(Box("a", always)), 0, [("box", "a", 0)])
        self.assertEqual([net.rest_values(()), net.written(0)(()), net.answering()], [(1,), 1, [0]])

    def test_sixteen_cells(self):
        net = chain_net(16)
        for value in (None, 0, 1):
            self.assertEqual(net.rest_values((value,)), (value,) * 16)
            self.assertEqual([net.written(cell)((value,)) for cell in range(16)], [value] * 16)
        self.assertEqual(net.answering(), list(range(16)))
        self.assertEqual(net.cell_table(0), Table(1, [((0,), 0), ((1,), 1)]))

    def test_agrees_with_each_order_of_firing(self):
        chance = random.Random(12)
        for net in drawn_nets(chance, 60):
            for row in rows_of(net.inputs, net.stock.signs):
                rest = net.rest_values(row)
                self.assertEqual(rest, rest_of(net, row))
                for _ in range(3):
                    self.assertEqual(drawn_rest(chance, net, row), rest)

    def test_rest_behind_as_many_rounds_as_cells(self):
        chance = random.Random(121)
        for net in [chain_net(16), chain_net(3), *drawn_nets(chance, 30)]:
            lines = net.cells()
            for row in rows_of(net.inputs, net.stock.signs):
                values = [None] * len(net)
                for _ in lines:
                    for at, line in enumerate(lines):
                        values[at] = line_by_values(net.stock, line, row, values)
                self.assertEqual(tuple(values), net.rest_values(row))

    def test_tables_and_programs_of_the_cells(self):
        chance = random.Random(13)
        for net in drawn_nets(chance, 40):
            rows = rows_of(net.inputs, net.stock.signs)
            rests = [net.rest_values(row) for row in rows]
            answering = [cell for cell in range(len(net)) if any(rest[cell] is not None for rest in rests)]
            self.assertEqual(net.answering(), answering)
            for cell in range(len(net)):
                table = net.cell_table(cell=cell)
                self.assertEqual([table.inputs, table.signs], [net.inputs, net.stock.signs])
                self.assertEqual(table.all_values(), [rest[cell] for rest in rests])
                program = net.written(cell=cell)
                self.assertIsInstance(program, Program)
                self.assertEqual([program.stock, program.inputs], [net.stock, net.inputs])
                self.assertEqual([program(row) for row in rows], table.all_values())
                self.assertEqual(program, net.written(cell))

    def test_programs_with_many_lines(self):
        # Each cell asks the next two; the last ones refer back to the first one.
        cells = [("ask", at, (at + 1) % 15, (at + 2) % 15) for at in range(1, 15)]
        net = Net(OR, 2, [("box", "or", 15, 1), *cells, ("input", 1)])
        many = 0
        for cell in range(16):
            program = net.written(cell)
            many = max(many, len(program))
            for row in rows_of(2, 2):
                self.assertEqual(program(row), net.rest_values(row)[cell])
        self.assertGreater(many, 100)

    def test_no_inputs_and_eight_inputs(self):
        net = Net(NO, 0, [("box", "no", 1), ("box", "or", 1, 2), ("box", "yes")])
        self.assertEqual(net.rest_values(()), (0, 1, 1))
        self.assertEqual([net.cell_table(0), net.answering()], [Table(0, [((), 0)]), [0, 1, 2]])
        wide = Net(OR, 8, [("box", "or", 1, 2), ("input", 7), ("input", 0), ("box", "or", 3, 0)])
        chance = random.Random(128)
        for _ in range(40):
            row = tuple(chance.choice([None, 0, 1]) for _ in range(8))
            self.assertEqual(wide.rest_values(row), rest_of(wide, row))
            self.assertEqual(tuple(wide.written(cell)(row) for cell in range(4)), rest_of(wide, row))

    def test_same_values_as_a_function_that_calls_itself(self):
        # f is or of its input and of itself at the same input, as the cell 1 of HOLD is.
        lines = [("input", 0), ("call", "f", 0), ("box", "or", 0, 1)]
        self.assertEqual(Book(OR, Function("f", 1, lines)).function_table("f"), HOLD.cell_table(1))
        chance = random.Random(11)
        for net in drawn_nets(chance, 25, most_inputs=2, most_cells=5):
            # Each cell becomes a function; a reference to a cell is a call of it at the same inputs.
            inputs = [("input", at) for at in range(net.inputs)]
            names = "fghijk"
            functions = []
            for cell, line in enumerate(net.cells()):
                called = line[1:] if line[0] == "ask" else line[2:] if line[0] == "box" else ()
                calls = [("call", names[number], *range(net.inputs)) for number in called]
                kept = line[:len(line) - len(called)]
                end = (*kept, *range(net.inputs, net.inputs + len(called)))
                functions.append(Function(names[cell], net.inputs, [*inputs, *calls, end]))
            book = Book(net.stock, *functions)
            for cell in range(len(net)):
                self.assertEqual(book.function_table(names[cell]), net.cell_table(cell))

    def test_stocks_make_the_tables_of_their_nets(self):
        chance = random.Random(14)
        for net in drawn_nets(chance, 30, most_inputs=2):
            for cell in range(len(net)):
                table = net.cell_table(cell)
                if raised(makes, net.stock, table) is None:
                    self.assertIs(makes(net.stock, table), True)

    def test_lists_are_copied(self):
        cells = [("input", 0), ("ask", 0, 0, 1)]
        net = Net(Stock(), 1, cells)
        self.assertEqual(cells, [("input", 0), ("ask", 0, 0, 1)])
        cells.append(5)
        net.cells().clear()
        net.answering().clear()
        self.assertEqual([net.cells(), len(net), net.answering()], [[("input", 0), ("ask", 0, 0, 1)], 2, [0, 1]])
        self.assertEqual(net.rest_values((0,)), (0, 0))


class ErrorsTest(unittest.TestCase):
    def test_inputs(self):
        for value in all_but([0, 1, 2, 3, 4, 8]):
            raised_is(self, raised(Net, Stock(), value, []), ("InvalidInputs", value))
        self.assertEqual(Net(Stock(), 8, [("input", 7)]).inputs, 8)
        self.assertEqual(raised(Net, Stock(), -1, 5), ("InvalidInputs", -1))

    def test_no_cells(self):
        for value in [value for value in any_values() if not isinstance(value, (list, tuple))]:
            raised_is(self, raised(Net, Stock(), 0, value), ("InvalidLine", -1))
        for value in ([], ()):
            self.assertEqual(raised(Net, Stock(), 0, value), ("InvalidLine", -1))

    def test_too_many_cells(self):
        self.assertEqual(len(Net(Stock(), 0, [("never",)] * 16)), 16)
        self.assertEqual(raised(Net, Stock(), 0, [("never",)] * 17), ("TooMany", "cells", 17))
        self.assertEqual(raised(Net, Stock(), 0, [None] * 40), ("TooMany", "cells", 40))

    def test_wrong_cells(self):
        for value in any_values():
            raised_is(self, raised(Net, OR, 2, [("never",), value, None]), ("InvalidLine", 1))
        wrong = [("input", 2), ("input", -1), ("input", True), ("input",), ("sign", 2), ("sign", False), ("never", 0),
                 ("ask", 0, 1), ("ask", 0, 1, 2), ("ask", 0, 1, 1, 1), ("ask", 0, 0, True), ("ask", 0, -1, 0),
                 ("box", "or", 0), ("box", "or", 0, 2), ("box", "and", 0, 1), ("box", ["or"], 0, 1), ("call", "or", 0),
                 ("ask", (0,), 0, 0), ["never"]]
        for value in wrong:
            self.assertEqual(raised(Net, OR, 2, [("never",), value]), ("InvalidLine", 1), value)
        self.assertEqual(raised(Net, OR, 2, [("ask", 1, 1, 2), ("input", 5)]), ("InvalidLine", 0))
        # The references are to any cell, the last one too.
        self.assertEqual(len(Net(OR, 0, [("ask", 2, 1, 0), ("box", "or", 2, 1), ("never",)])), 3)
        self.assertEqual(len(Net(or_stock(3), 0, [("ask", 0, 1, 1, 0), ("sign", 2)])), 2)

    def test_rows(self):
        for value in all_but([(0,), (1,), (None,)]):
            raised_is(self, raised(HOLD.rest_values, value), ("InvalidRow", 0))
        for value in ((2,), (0, 1), [0], (True,)):
            self.assertEqual(raised(HOLD.rest_values, value), ("InvalidRow", 0))
        self.assertEqual(Net(Stock(signs=3), 1, [("input", 0)]).rest_values((2,)), (2,))

    def test_cells(self):
        wide = Net(Stock(), 6, [("never",)] * 4)
        for value in all_but([0, 1, 2, 3]):
            for call in (wide.cell_table, wide.written):
                raised_is(self, raised(call, value), ("InvalidNumber", value))
        self.assertEqual(raised(HOLD.written, 2), ("InvalidNumber", 2))

    def test_tables_with_too_many_inputs(self):
        for signs, inputs in ((2, 6), (2, 8), (3, 5), (3, 8)):
            net = Net(Stock(signs=signs), inputs, [("input", inputs - 1)])
            self.assertEqual(raised(net.cell_table, 0), ("TooMany", "inputs", inputs))
            self.assertEqual(raised(net.answering), ("TooMany", "inputs", inputs))
            self.assertEqual(net.written(0)((None,) * (inputs - 1) + (1,)), 1)
        for signs, inputs in ((2, 5), (3, 4)):
            net = Net(Stock(signs=signs), inputs, [("input", 0), ("never",)])
            self.assertEqual([len(net.cell_table(0)), net.cell_table(1).least, net.answering()], [signs, [], [0]])


class AndTest(unittest.TestCase):
    def test_two_boxes_that_wait_for_each_other(self):
        stock = Stock(Box("or", or_table()), Box("and", and_table()))
        # Each cell is settled by one of the inputs without the other cell.
        net = Net(stock, 2, [("input", 0), ("input", 1), ("box", "or", 0, 3), ("box", "and", 1, 2)])
        self.assertEqual(net.rest_values((1, None)), (1, None, 1, None))
        self.assertEqual(net.rest_values((None, 0)), (None, 0, None, 0))
        self.assertEqual(net.rest_values((0, 1)), (0, 1, None, None))
        self.assertEqual(net.rest_values((0, 0)), (0, 0, 0, 0))
        self.assertEqual(net.rest_values((1, 1)), (1, 1, 1, 1))
