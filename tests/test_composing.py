import random
import unittest

from neverboxes.boxes import Box, Stock
from neverboxes.composing import programs_part, put_into
from neverboxes.programs import Program
from tests.samples import (
    all_but, any_values, or_program, or_stock, raised, raised_is, rows_of, some_lines, some_table,
)


def drawn_puts(many=60):
    """Outer programs with inner ones and the number of inputs of these."""
    chance = random.Random(5)
    for at in range(many):
        signs = 2 + at % 2
        boxes = [Box(name, some_table(chance, chance.randrange(3), signs)) for name in "ab"]
        stock = Stock(*boxes, signs=signs)
        places, inputs = chance.randrange(4), chance.randrange(4)
        lines = some_lines(chance, stock, places, 4 + chance.randrange(5))
        outer = Program(stock, places, lines[:1 + chance.randrange(len(lines))])
        inners = [Program(stock, inputs, some_lines(chance, stock, inputs, 4)) for _ in range(places)]
        yield outer, inners, inputs


class PutIntoTest(unittest.TestCase):
    def test_values(self):
        for outer, inners, inputs in drawn_puts():
            made = put_into(outer, inners, inputs=inputs)
            self.assertEqual([made.stock, made.inputs], [outer.stock, inputs])
            for row in rows_of(inputs, outer.stock.signs):
                self.assertEqual(made(row), outer(tuple(inner(row) for inner in inners)))

    def test_an_outer_program_that_ends_with_an_input(self):
        stock = or_stock()
        one = Program(stock, 1, [("input", 0), ("sign", 1), ("ask", 0, 1, 0)])
        other = Program(stock, 1, [("input", 0)])
        for at in (0, 1):
            outer = Program(stock, 2, [("input", 1 - at), ("never",), ("input", at)])
            made = put_into(outer, [one, other], inputs=1)
            for row in rows_of(1, 2):
                self.assertEqual(made(row), (one, other)[at](row))

    def test_no_inner_programs(self):
        outer = Program(or_stock(), 0, [("box", "yes")])
        for inputs in (0, 8):
            made = put_into(outer, (), inputs=inputs)
            self.assertEqual([made.inputs, made((None,) * inputs)], [inputs, 1])

    def test_eight_inner_programs_of_eight_inputs(self):
        outer = Program(Stock(), 8, [("input", 7), ("input", 0), ("ask", 0, 1, 0)])
        inners = [Program(Stock(), 8, [("input", 7 - at)]) for at in range(8)]
        made = put_into(inputs=8, inners=inners, outer=outer)
        self.assertEqual(made((0,) + (None,) * 6 + (1,)), 1)
        self.assertEqual(made((1,) + (None,) * 7), 1)
        self.assertIsNone(made((None,) * 7 + (1,)))

    def test_long_chains(self):
        chain = Program(Stock(), 1, [("input", 0)] + [("ask", at, 0, at) for at in range(399)])
        made = put_into(chain, [chain], inputs=1)
        self.assertEqual([made((0,)), made((1,)), made((None,))], [0, 1, None])

    def test_equal_calls_tell_equal_programs(self):
        for outer, inners, inputs in drawn_puts(10):
            one = put_into(outer, inners, inputs=inputs)
            self.assertEqual(one, put_into(outer, tuple(inners), inputs=inputs))

    def test_arguments_stay(self):
        outer, inner = or_program(), or_program()
        inners = [inner, inner]
        put_into(outer, inners, inputs=2)
        self.assertEqual([outer, inners], [or_program(), [or_program(), or_program()]])

    def test_errors(self):
        outer, inner = or_program(), or_program()
        for value in all_but([0, 1, 2, 3, 4, 8]):
            raised_is(self, raised(put_into, outer, 5, inputs=value), ("InvalidInputs", value))
        self.assertEqual(raised(put_into, outer, 5, inputs=9), ("InvalidInputs", 9))
        for value in any_values():
            if not isinstance(value, (list, tuple)) or len(value) != 2:
                raised_is(self, raised(put_into, outer, value, inputs=2), ("InvalidPrograms", -1))
            raised_is(self, raised(put_into, outer, [inner, value], inputs=1), ("InvalidPrograms", 0))
        for value in all_but([or_program()]):
            raised_is(self, raised(put_into, outer, [inner, value], inputs=2), ("InvalidPrograms", 1))
            raised_is(self, raised(put_into, outer, (value, value), inputs=2), ("InvalidPrograms", 0))
        self.assertEqual(raised(put_into, outer, [inner] * 3, inputs=2), ("InvalidPrograms", -1))
        self.assertEqual(raised(put_into, outer, {0: inner, 1: inner}, inputs=2), ("InvalidPrograms", -1))

    def test_inner_programs_with_another_stock(self):
        lines = [("never",)]
        outer = Program(or_stock(), 1, [("input", 0)])
        other = or_stock().without("yes")
        for stock in (Stock(), other, or_stock(3)):
            self.assertEqual(raised(put_into, outer, [Program(stock, 0, lines)], inputs=0), ("InvalidPrograms", 0))
        self.assertIsNone(raised(put_into, outer, [Program(or_stock(), 0, lines)], inputs=0))

    def test_inputs_are_keyword_only(self):
        with self.assertRaises(TypeError):
            put_into(or_program(), [or_program(), or_program()], 2)
        with self.assertRaises(TypeError):
            put_into(or_program(), [or_program(), or_program()])


class PartTest(unittest.TestCase):
    def test_rows(self):
        one = or_program()
        other = Program(Stock(), 2, [("input", 0), ("input", 1), ("sign", 1), ("ask", 0, 1, 2)])
        self.assertEqual(programs_part(one, other), (None, 1))
        self.assertEqual(programs_part(other=one, one=other), (None, 1))
        self.assertIsNone(programs_part(one, or_program()))
        zero = Program(Stock(), 2, [("sign", 0)])
        self.assertEqual(programs_part(one, zero), (None, None))
        self.assertEqual(programs_part(Program(Stock(), 0, [("never",)]), Program(Stock(), 0, [("sign", 1)])), ())

    def test_definition(self):
        programs = [outer for outer, _, _ in drawn_puts(30)]
        for one in programs:
            for other in programs:
                signs = one.stock.signs
                if (one.inputs, signs) != (other.inputs, other.stock.signs):
                    self.assertEqual(raised(programs_part, one, other), ("Mismatch",))
                    continue
                parting = [row for row in rows_of(one.inputs, signs) if one(row) != other(row)]
                parting.sort(key=lambda row: sum(value is not None for value in row))
                self.assertEqual(programs_part(one, other), parting[0] if parting else None)

    def test_errors(self):
        def never(inputs, signs):
            return Program(Stock(signs=signs), inputs, [("never",)])

        self.assertEqual(raised(programs_part, never(1, 2), never(2, 2)), ("Mismatch",))
        self.assertEqual(raised(programs_part, never(1, 2), never(1, 3)), ("Mismatch",))
        self.assertEqual(raised(programs_part, never(8, 2), never(7, 2)), ("Mismatch",))
        self.assertEqual(raised(programs_part, never(6, 2), never(6, 3)), ("Mismatch",))
        for value in all_but([or_program()]):
            self.assertEqual(raised(programs_part, or_program(), value), ("Mismatch",))
            self.assertEqual(raised(programs_part, value, or_program()), ("Mismatch",))
        self.assertEqual(raised(programs_part, never(6, 2), never(6, 2)), ("TooMany", "inputs", 6))
        self.assertEqual(raised(programs_part, never(5, 3), never(5, 3)), ("TooMany", "inputs", 5))
        self.assertIsNone(programs_part(never(5, 2), never(5, 2)))
        self.assertIsNone(programs_part(never(4, 3), never(4, 3)))
