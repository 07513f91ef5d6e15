import unittest
from itertools import product

from neverboxes.rows import common, every_row, in_order, is_below, joined, read_row, row_text, rows_fit
from tests.samples import all_but, do_fit, is_under, rows_of

ROWS = rows_of(0, 3) + rows_of(1, 3) + rows_of(2, 3)


class ComparingTest(unittest.TestCase):
    def test_is_below(self):
        self.assertIs(is_below((None, 1), (0, 1)), True)
        self.assertIs(is_below((0, 1), (None, 1)), False)
        self.assertIs(is_below((0,), (1,)), False)
        self.assertIs(is_below((), ()), True)
        self.assertIs(is_below((0, None), (0, None)), True)
        for one, other in product(ROWS, ROWS):
            self.assertIs(is_below(one, other), is_under(one, other))

    def test_rows_of_other_lengths_are_not_below_and_do_not_fit(self):
        self.assertIs(is_below((), (0,)), False)
        self.assertIs(is_below((None,), (0, 1)), False)
        self.assertIs(is_below((None, None), (0,)), False)
        self.assertIs(rows_fit((0,), (0, 1)), False)
        self.assertIs(rows_fit((None,), ()), False)
        self.assertIsNone(joined((0,), (0, 1)))

    def test_rows_fit(self):
        self.assertIs(rows_fit((None, 1), (0, None)), True)
        self.assertIs(rows_fit((0, 1), (0, 0)), False)
        self.assertIs(rows_fit((), ()), True)
        for one, other in product(ROWS, ROWS):
            self.assertIs(rows_fit(one, other), do_fit(one, other))

    def test_join_is_the_least_row_above_both(self):
        self.assertEqual(joined((None, 1), (0, None)), (0, 1))
        self.assertEqual(joined((), ()), ())
        self.assertIsNone(joined((0, 1), (0, 0)))
        for one, other in product(rows_of(2, 3), rows_of(2, 3)):
            above = [row for row in rows_of(2, 3) if is_under(one, row) and is_under(other, row)]
            least = [row for row in above if all(is_under(row, upper) for upper in above)]
            self.assertEqual(joined(one, other), least[0] if least else None)

    def test_common_part_is_the_greatest_row_below_both(self):
        self.assertEqual(common((0, 1, None), (0, 0, None)), (0, None, None))
        self.assertEqual(common((), ()), ())
        for one, other in product(rows_of(2, 3), rows_of(2, 3)):
            below = [row for row in rows_of(2, 3) if is_under(row, one) and is_under(row, other)]
            self.assertEqual([row for row in below if all(is_under(lower, row) for lower in below)],
                             [common(one, other)])

    def test_join_and_common_part_are_tuples(self):
        self.assertIs(type(joined((0,), (None,))), tuple)
        self.assertIs(type(common((0,), (None,))), tuple)

    def test_by_name(self):
        self.assertIs(is_below(other=(0,), one=(None,)), True)
        self.assertIs(rows_fit(other=(0,), one=(None,)), True)
        self.assertEqual(joined(other=(0,), one=(None,)), (0,))
        self.assertEqual(common(other=(0,), one=(None,)), (None,))


class OrderTest(unittest.TestCase):
    def test_every_row_in_row_order(self):
        self.assertEqual(every_row(0), [()])
        self.assertEqual(every_row(1), [(None,), (0,), (1,)])
        self.assertEqual(every_row(1, signs=3), [(None,), (0,), (1,), (2,)])
        self.assertEqual(every_row(2)[:4], [(None, None), (None, 0), (None, 1), (0, None)])
        for inputs in range(6):
            self.assertEqual(every_row(inputs), rows_of(inputs, 2))
            self.assertEqual(every_row(inputs=inputs, signs=3), rows_of(inputs, 3))
        self.assertEqual(len(every_row(5)), 243)
        self.assertEqual(len(every_row(5, signs=3)), 1024)

    def test_every_row_tells_a_new_list(self):
        every_row(1).clear()
        self.assertEqual(len(every_row(1)), 3)

    def test_signs_are_keyword_only(self):
        with self.assertRaises(TypeError):
            every_row(1, 3)
        with self.assertRaises(TypeError):
            read_row("2", 3)

    def test_in_order(self):
        self.assertEqual(in_order([(1,), (None,), (0,), (2,)]), [(None,), (0,), (1,), (2,)])
        self.assertEqual(in_order([]), [])
        self.assertEqual(in_order([(), ()]), [(), ()])
        self.assertEqual(in_order(list(reversed(rows_of(3, 3)))), rows_of(3, 3))

    def test_in_order_keeps_equal_rows_and_its_argument(self):
        rows = [(1, 0), (None, 1), (1, 0), (None, 0)]
        self.assertEqual(in_order(rows), [(None, 0), (None, 1), (1, 0), (1, 0)])
        self.assertEqual(rows, [(1, 0), (None, 1), (1, 0), (None, 0)])
        self.assertEqual(in_order(rows=tuple(rows)), [(None, 0), (None, 1), (1, 0), (1, 0)])


class TextTest(unittest.TestCase):
    def test_row_text(self):
        self.assertEqual(row_text(()), ".")
        self.assertEqual(row_text((None,)), "~")
        self.assertEqual(row_text(row=(0, None, 1, 2)), "0~12")

    def test_texts_are_read_back(self):
        for row in ROWS + rows_of(4, 3):
            self.assertEqual(read_row(row_text(row), signs=3), row)
        for row in rows_of(3, 2):
            self.assertEqual(read_row(text=row_text(row)), row)
        self.assertEqual(read_row("~01~01~01~01"), (None, 0, 1) * 4)

    def test_two_signs_are_the_default(self):
        self.assertIsNone(read_row("2"))
        self.assertEqual(read_row("2", signs=3), (2,))
        self.assertIsNone(read_row("3", signs=3))

    def test_no_texts_of_rows(self):
        for text in ("", "..", ".0", "0.", " ", "0 1", "0\n", "\n", "a", "~a", "-1", "None", "~~ ", "9"):
            self.assertIsNone(read_row(text), repr(text))

    def test_other_kinds(self):
        for value in all_but(["0", "~", "."]):
            self.assertIsNone(read_row(value), repr(value))
        self.assertIsNone(read_row(("0",)))
        self.assertIsNone(read_row(["0", "1"]))
