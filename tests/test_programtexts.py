import unittest

from neverboxes.boxes import Box, Stock
from neverboxes.programs import Program
from neverboxes.programtexts import program_text, read_program
from tests.samples import any_values, or_program, or_stock, raised, raised_is, yes_table
from tests.test_programs import drawn_programs

OR_TEXT = "program 2\ninput 0\ninput 1\nbox or 0 1\nend\n"
LONG_TEXT = "program 2\ninput 0\nsign 1\nnever\nask 0 1 2\nbox or 3 0\nbox yes\nend\n"


class WrittenTest(unittest.TestCase):
    def test_texts(self):
        self.assertEqual(program_text(program=or_program()), OR_TEXT)
        lines = [("input", 0), ("sign", 1), ("never",), ("ask", 0, 1, 2), ("box", "or", 3, 0), ("box", "yes")]
        self.assertEqual(program_text(Program(or_stock(), 2, lines)), LONG_TEXT)
        three = Program(Stock(signs=3), 8, [("input", 7), ("ask", 0, 0, 0, 0)])
        self.assertEqual(program_text(three), "program 8\ninput 7\nask 0 0 0 0\nend\n")
        self.assertEqual(read_program(program_text(three), Stock(signs=3)), three)

    def test_texts_are_read_back(self):
        for program in drawn_programs():
            self.assertEqual(read_program(program_text(program), program.stock), program)
        self.assertEqual(read_program(stock=or_stock(), text=OR_TEXT), or_program())

    def test_long_programs(self):
        program = Program(Stock(), 1, [("input", 0)] + [("ask", at, 0, at) for at in range(399)])
        self.assertEqual(read_program(program_text(program), Stock()), program)


class ReadTest(unittest.TestCase):
    def wrong(self, text, line, why, stock=None):
        raised_is(self, raised(read_program, text, stock or or_stock()), ("InvalidText", line, why))

    def wrong_line(self, line, why, stock=None):
        """A line behind two lines of a program with two inputs."""
        self.wrong("program 2\nnever\nnever\n" + line + "\nend\n", 3, why, stock)

    def test_no_string(self):
        for value in any_values():
            if not isinstance(value, str):
                self.wrong(value, 0, "form")
        self.wrong([OR_TEXT], 0, "form")

    def test_head(self):
        for head in ("", "program", "program 9", "program 10", "program -1", "program 02", "program 00", "program  2",
                     "program 2 ", " program 2", "program 2 2", "Program 2", "program x", "program 0000000002",
                     "program +2", "end", "never", "stock 2"):
            self.wrong(head + "\nnever\nend\n", 0, "form")
        for inputs in (0, 8):
            self.assertEqual(read_program(f"program {inputs}\nnever\nend\n", Stock()).inputs, inputs)

    def test_forms(self):
        for line in ("", " ", "input", "input 0 0", "input x", "input -1", "input 00", "input 01", "input  0",
                     "input 0 ", " input 0", "Input 0", "sign", "sign 0 0", "sign ~", "sign 01", "never 0", "never ",
                     "ask", "ask 0", "ask 0 0", "ask 0 0 0 0", "ask 0  0 0", "ask 0 0 x", "ask 0 0 ", "ask 0 0 00",
                     "box", "box ", "box Or 0 0", "box abcdefghi", "box 0 0", "box or 0 x", "box or  0 1",
                     "box or 0 1 ", "box or 0 01", "box o1 0", "call yes", "call f 0", "END", "end ", "end 0",
                     "program 2", "input +0", "input 0.", "or 0 1", "never\t"):
            self.wrong_line(line, "form")

    def test_branches_are_as_many_as_the_signs(self):
        self.wrong_line("ask 0 0 0", "form", or_stock(3))
        self.wrong_line("ask 0 0 0 0 0", "form", or_stock(3))
        self.assertEqual(len(read_program("program 0\nnever\nask 0 0 0 0\nend\n", or_stock(3))), 2)

    def test_numbers_of_nine_digits_and_of_ten(self):
        for line in ("input {}", "sign {}", "ask 0 {} 0", "box or 0 {}", "box no {}"):
            self.wrong_line(line.format("999999999"), "reference")
            self.wrong_line(line.format("1000000000"), "form")
            self.wrong_line(line.format("0000000001"), "form")

    def test_numbers_out_of_bounds(self):
        for line in ("input 2", "sign 2", "ask 2 0 0", "ask 0 0 2", "ask 0 5 0", "box or 2 0", "box or 0 2"):
            self.wrong_line(line, "reference")
        self.wrong("program 0\ninput 0\nend\n", 1, "reference")
        self.wrong("program 0\nask 0 0 0\nend\n", 1, "reference")
        self.wrong("program 0\nsign 3\nend\n", 1, "reference", or_stock(3))
        self.assertEqual(read_program("program 0\nsign 2\nend\n", or_stock(3)).lines(), [("sign", 2)])
        self.assertEqual(read_program("program 8\ninput 7\nend\n", Stock()).lines(), [("input", 7)])

    def test_a_wrong_number_counts_ahead_of_a_wrong_box(self):
        for line in ("box no 2", "box or 2", "box yes 2", "box or 0 1 2"):
            self.wrong_line(line, "reference")

    def test_wrong_boxes(self):
        for line in ("box no", "box no 0 1", "box or", "box or 0", "box or 0 1 0", "box yes 0", "box input 0",
                     "box end"):
            self.wrong_line(line, "box")
        self.wrong_line("box or 0 1", "box", Stock())
        named = Stock(Box("end", yes_table()))
        self.assertEqual(read_program("program 0\nbox end\nend\n", named).lines(), [("box", "end")])

    def test_empty(self):
        self.wrong("program 0\nend\n", 1, "empty")
        self.wrong("program 8\nend\nnever\n", 1, "empty")
        self.wrong("program 0\nend", 1, "form")
        self.wrong("program 9\nend\n", 0, "form")

    def test_first_wrong_line_counts(self):
        self.wrong("program 0\nnever\nsign 5\nwrong\nbox no\n", 2, "reference")
        self.wrong("program 0\nnever\nbox no\nsign 5\nwrong\n", 2, "box")
        self.wrong("program 0\nwrong\nend", 1, "form")

    def test_missing_at_each_line(self):
        lines = LONG_TEXT.split("\n")[:-1]
        for many in range(len(lines)):
            self.wrong("".join(line + "\n" for line in lines[:many]), many, "missing")

    def test_a_line_that_lacks_its_line_feed(self):
        lines = LONG_TEXT.split("\n")[:-1]
        for many in range(1, len(lines) + 1):
            self.wrong("\n".join(lines[:many]), many - 1, "form")
        self.wrong("program 0\nsign 9", 1, "form")

    def test_a_line_behind_the_last_one(self):
        for more in ("x", "\n", "end\n", "end", "never\n", " "):
            self.wrong("program 0\nnever\nend\n" + more, 3, "form")
