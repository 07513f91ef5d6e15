import unittest

from neverboxes.boxes import Stock
from neverboxes.values import is_name, is_number, is_row, is_sign, is_value
from tests.samples import all_but, any_values


class NumberTest(unittest.TestCase):
    def test_bounds_belong_to_the_numbers(self):
        self.assertEqual([is_number(n, 2, 4) for n in range(7)], [False, False, True, True, True, False, False])
        self.assertIs(is_number(-999999999, -999999999, 999999999), True)
        self.assertIs(is_number(0, 1, 0), False)

    def test_true_and_false_are_no_numbers(self):
        self.assertIs(is_number(True, 0, 1), False)
        self.assertIs(is_number(False, 0, 1), False)

    def test_other_kinds(self):
        for value in any_values():
            expected = type(value) is int and 0 <= value <= 3
            self.assertIs(is_number(value, 0, 3), expected, repr(value))

    def test_by_name(self):
        self.assertIs(is_number(most=3, least=2, value=3), True)


class NameTest(unittest.TestCase):
    def test_names(self):
        for name in ("a", "z", "or", "abcdefgh", "input", "end", "zzzzzzzz"):
            self.assertIs(is_name(name), True, name)

    def test_no_names(self):
        for name in ("", "abcdefghi", "A", "oR", "a1", "a b", " a", "a ", "a_b", "a\n", "\n", "-", "`", "{"):
            self.assertIs(is_name(name), False, name)

    def test_other_kinds(self):
        for value in all_but(["or", "input"]):
            self.assertIs(is_name(value), False, repr(value))

    def test_letters_within_a_tuple_are_no_name(self):
        self.assertIs(is_name(("a", "b")), False)
        self.assertIs(is_name(["a"]), False)


class SignAndValueTest(unittest.TestCase):
    def test_signs(self):
        self.assertEqual([is_sign(n, 2) for n in (-1, 0, 1, 2, 3)], [False, True, True, False, False])
        self.assertEqual([is_sign(n, 3) for n in (-1, 0, 1, 2, 3)], [False, True, True, True, False])

    def test_values(self):
        self.assertEqual([is_value(n, 2) for n in (None, -1, 0, 1, 2)], [True, False, True, True, False])
        self.assertEqual([is_value(n, 3) for n in (None, -1, 0, 1, 2)], [True, False, True, True, True])

    def test_other_kinds(self):
        for value in any_values():
            number = type(value) is int and 0 <= value <= 2
            self.assertIs(is_sign(value, 3), number, repr(value))
            self.assertIs(is_value(value, 3), number or value is None, repr(value))

    def test_by_name(self):
        self.assertIs(is_sign(signs=3, value=2), True)
        self.assertIs(is_value(signs=3, value=None), True)


class RowTest(unittest.TestCase):
    def test_rows(self):
        self.assertIs(is_row((), 0, 2), True)
        self.assertIs(is_row((None, 0, 1), 3, 2), True)
        self.assertIs(is_row((2,), 1, 3), True)
        self.assertIs(is_row((None,) * 8, 8, 2), True)

    def test_other_lengths_and_signs(self):
        self.assertIs(is_row((), 1, 2), False)
        self.assertIs(is_row((0,), 0, 2), False)
        self.assertIs(is_row((0, 1), 3, 2), False)
        self.assertIs(is_row((2,), 1, 2), False)
        self.assertIs(is_row((3,), 1, 3), False)
        self.assertIs(is_row((-1,), 1, 2), False)

    def test_lists_and_booleans(self):
        self.assertIs(is_row([0, 1], 2, 2), False)
        self.assertIs(is_row([], 0, 2), False)
        self.assertIs(is_row((True,), 1, 2), False)
        self.assertIs(is_row((0, False), 2, 2), False)

    def test_other_kinds(self):
        for value in all_but([(0,), (1,), (None,)]):
            self.assertIs(is_row(value, 1, 2), False, repr(value))
        for value in any_values():
            self.assertIs(is_row((value,), 1, 2), value is None or (type(value) is int and value in (0, 1)))
        self.assertIs(is_row(Stock(), 0, 2), False)
        self.assertIs(is_row("", 0, 2), False)
        self.assertIs(is_row({}, 0, 2), False)

    def test_by_name(self):
        self.assertIs(is_row(signs=2, inputs=1, value=(0,)), True)
