import random
import unittest

from neverboxes.boxes import Box, Stock
from neverboxes.programs import Program
from neverboxes.tables import Table
from tests.samples import (
    all_but, any_values, not_table, or_program, or_stock, or_table, raised, raised_is, rows_of, some_lines,
    some_table, value_by_lines,
)


def drawn_programs(many=40):
    chance = random.Random(11)
    for at in range(many):
        signs = 2 + at % 2
        names = "abc"[:chance.randrange(4)]
        boxes = [Box(name, some_table(chance, chance.randrange(3), signs)) for name in names]
        stock = Stock(*boxes, signs=signs)
        inputs = chance.randrange(4)
        yield Program(stock, inputs, some_lines(chance, stock, inputs, 4 + chance.randrange(8)))


class ProgramTest(unittest.TestCase):
    def test_told(self):
        program = Program(lines=(("input", 0), ("never",)), inputs=1, stock=Stock())
        self.assertEqual([program.stock, program.inputs, len(program)], [Stock(), 1, 2])
        self.assertEqual(program.lines(), [("input", 0), ("never",)])
        self.assertEqual(repr(program), "Program(1 inputs, 2 lines)")
        self.assertEqual(repr(Program(Stock(), 0, [("never",)])), "Program(0 inputs, 1 lines)")

    def test_values_of_or(self):
        program = or_program()
        self.assertEqual([program(row) for row in rows_of(2, 2)], or_table().all_values())
        self.assertEqual(program.as_table(), or_table())
        self.assertEqual(program(row=(1, None)), 1)

    def test_values_agree_with_the_definition(self):
        for program in drawn_programs():
            rows = rows_of(program.inputs, program.stock.signs)
            expected = [value_by_lines(program.stock, program.lines(), row) for row in rows]
            self.assertEqual([program(row) for row in rows], expected)
            self.assertEqual(program.column(rows), tuple(expected))
            self.assertEqual(program.as_table().all_values(), expected)

    def test_inputs(self):
        for value in all_but([0, 1, 2, 3, 4, 8]):
            raised_is(self, raised(Program, Stock(), value, []), ("InvalidInputs", value))
        self.assertEqual(Program(Stock(), 8, [("input", 7)])((None,) * 7 + (1,)), 1)
        self.assertEqual(Program(Stock(), 0, [("sign", 1)])(()), 1)
        self.assertEqual(raised(Program, Stock(), 9, 5), ("InvalidInputs", 9))

    def test_no_lines(self):
        for value in [value for value in any_values() if not isinstance(value, (list, tuple))]:
            raised_is(self, raised(Program, Stock(), 0, value), ("InvalidLine", -1))
        self.assertEqual(raised(Program, Stock(), 0, []), ("InvalidLine", -1))
        self.assertEqual(raised(Program, Stock(), 0, ()), ("InvalidLine", -1))

    def test_wrong_lines(self):
        for value in any_values():
            self.assertEqual(raised(Program, Stock(), 1, [("input", 0), value, value]), ("InvalidLine", 1))
        self.assertEqual(raised(Program, Stock(), 1, ["never"]), ("InvalidLine", 0))
        self.assertEqual(raised(Program, Stock(), 0, [("sign", 0), ("input", 0)]), ("InvalidLine", 1))
        self.assertEqual(raised(Program, Stock(), 0, [("box", "or", 0, 0)]), ("InvalidLine", 0))
        self.assertEqual(raised(Program, or_stock(), 0, [("never",), ("box", "or", 0)]), ("InvalidLine", 1))
        self.assertEqual(raised(Program, or_stock(), 0, [("call", "yes")]), ("InvalidLine", 0))

    def test_references_to_the_line_itself_and_to_later_ones(self):
        for number in (1, 2, 3, -1):
            lines = [("never",), ("ask", 0, 0, number), ("never",)]
            self.assertEqual(raised(Program, Stock(), 0, lines), ("InvalidLine", 1))
        self.assertIsNone(raised(Program, Stock(), 0, [("never",), ("ask", 0, 0, 0)]))

    def test_wrong_rows(self):
        program = Program(Stock(), 1, [("input", 0)])
        for value in all_but([(0,), (1,), (None,)]):
            raised_is(self, raised(program, value), ("InvalidRow", 0))
        self.assertEqual(raised(program, (0, 0)), ("InvalidRow", 0))
        self.assertEqual(raised(program, (2,)), ("InvalidRow", 0))
        self.assertEqual(Program(Stock(signs=3), 1, [("input", 0)])((2,)), 2)

    def test_column(self):
        program = or_program()
        self.assertEqual(program.column(rows=[(1, None), (1, None), (0, None)]), (1, 1, None))
        self.assertEqual(program.column(((0, 0),)), (0,))
        self.assertEqual(program.column([]), ())
        self.assertEqual(len(program.column([(0, 0)] * 500)), 500)
        for value in [value for value in any_values() if not isinstance(value, (list, tuple))]:
            raised_is(self, raised(program.column, value), ("InvalidRow", -1))
        for value in any_values():
            raised_is(self, raised(program.column, [(0, 0), (None, None), value, 5]), ("InvalidRow", 2))
        self.assertEqual(raised(program.column, [[0, 0]]), ("InvalidRow", 0))
        self.assertEqual(raised(program.column, ((0, 0), (0, True))), ("InvalidRow", 1))

    def test_as_table(self):
        self.assertEqual(Program(Stock(), 5, [("input", 4)]).as_table().inputs, 5)
        self.assertEqual(raised(Program(Stock(), 6, [("input", 4)]).as_table), ("TooMany", "inputs", 6))
        self.assertEqual(raised(Program(Stock(), 8, [("input", 4)]).as_table), ("TooMany", "inputs", 8))
        three = Stock(signs=3)
        self.assertEqual(Program(three, 4, [("input", 3)]).as_table().signs, 3)
        self.assertEqual(raised(Program(three, 5, [("input", 3)]).as_table), ("TooMany", "inputs", 5))
        self.assertEqual(Program(Stock(), 0, [("never",)]).as_table(), Table(0, []))

    def test_equal(self):
        self.assertEqual(or_program(), or_program())
        never = Program(Stock(), 0, [("never",)])
        self.assertNotEqual(never, Program(Stock(), 1, [("never",)]))
        self.assertNotEqual(never, Program(Stock(signs=3), 0, [("never",)]))
        self.assertNotEqual(never, Program(or_stock(), 0, [("never",)]))
        self.assertNotEqual(never, Program(Stock(), 0, [("never",), ("never",)]))
        for value in all_but([or_program()]):
            self.assertIs(or_program() == value, False)
            self.assertIs(value == or_program(), False)

    def test_lists_are_copied(self):
        lines = [("input", 0), ("sign", 1)]
        program = Program(Stock(), 1, lines)
        self.assertEqual(lines, [("input", 0), ("sign", 1)])
        lines.clear()
        program.lines().clear()
        self.assertEqual(program.lines(), [("input", 0), ("sign", 1)])
        rows = [(0,), (1,)]
        program.column(rows)
        self.assertEqual(rows, [(0,), (1,)])

    def test_a_long_chain(self):
        lines = [("input", 0)]
        for at in range(399):
            lines.append(("box", "not", at))
        program = Program(Stock(Box("not", not_table())), 1, lines)
        self.assertEqual([len(program), program((0,)), program((1,)), program((None,))], [400, 1, 0, None])
        self.assertEqual(len(program.pruned()), 400)
        self.assertEqual(program.as_table(), not_table())


class NeededTest(unittest.TestCase):
    def test_pruned(self):
        lines = [("input", 1), ("never",), ("input", 0), ("sign", 1), ("box", "or", 0, 2), ("box", "yes"),
                 ("ask", 4, 0, 4)]
        program = Program(or_stock(), 2, lines)
        expected = [("input", 1), ("input", 0), ("box", "or", 0, 1), ("ask", 2, 0, 2)]
        self.assertEqual(program.pruned(), Program(or_stock(), 2, expected))
        self.assertEqual(program.used, ["or"])
        self.assertEqual(program.lines(), lines)

    def test_a_line_is_needed_through_others_only(self):
        program = Program(or_stock(), 0, [("box", "yes"), ("ask", 0, 0, 0), ("sign", 0)])
        self.assertEqual([program.pruned().lines(), program.used], [[("sign", 0)], []])

    def test_used_is_ascending_and_without_duplicates(self):
        stock = Stock(Box("b", not_table()), Box("a", not_table()), Box("c", not_table()))
        lines = [("input", 0), ("box", "b", 0), ("box", "c", 0), ("box", "b", 1), ("box", "a", 3)]
        self.assertEqual(Program(stock, 1, lines).used, ["a", "b"])
        self.assertIsInstance(vars(Program)["used"], property)
        self.assertEqual(Program(stock, 1, lines[:1]).used, [])

    def test_equal_lines_stay_apart(self):
        program = Program(Stock(), 1, [("input", 0), ("input", 0), ("ask", 0, 1, 1)])
        self.assertEqual(program.pruned(), program)

    def test_drawn_programs(self):
        for program in drawn_programs():
            pruned = program.pruned()
            rows = rows_of(program.inputs, program.stock.signs)
            self.assertEqual(pruned.column(rows), program.column(rows))
            self.assertEqual(pruned.stock, program.stock)
            lines = program.lines()
            needed = {len(lines) - 1}
            while True:
                more = {number for at in needed for number in lines[at][1:]
                        if lines[at][0] == "ask" or (lines[at][0] == "box" and isinstance(number, int))}
                if more <= needed:
                    break
                needed |= more
            self.assertEqual([line[0] for line in pruned.lines()], [lines[at][0] for at in sorted(needed)])
            self.assertEqual(program.used, sorted({lines[at][1] for at in needed if lines[at][0] == "box"}))
            self.assertEqual(pruned.pruned(), pruned)
