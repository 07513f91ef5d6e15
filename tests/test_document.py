"""The examples at the end of the document, run as they stand there."""

import doctest
import unittest

from tests.samples import raised

SHEETS = """
>>> from neverboxes.boxes import Box, Stock
>>> from neverboxes.everything import or_table
>>> from neverboxes.sheets import sheet_of
>>> rows = [(1, None), (None, 1), (0, 0)]
>>> with_or = sheet_of(rows, Stock(Box('or', or_table(2))))
>>> [with_or.pairs(), with_or.open_lots(), with_or.number(), sheet_of(rows, Stock()).number()]
[[((0,), (0,)), ((1,), (1,)), ((2,), (2,)), ((0, 1), (0, 1))], [(0, 2), (1, 2), (0, 1, 2)], 21, 17]
"""
BARRED = """
>>> from neverboxes.boxes import Stock
>>> from neverboxes.everything import or_table
>>> from neverboxes.tablemaking import barred
>>> barred(or_table(2), Stock())
(((None, 1), (0, 0), (1, None)), (0, 2), 0, 1)
"""
BOOKS = """
>>> from neverboxes.boxes import Stock
>>> from neverboxes.functions import Book, Function
>>> book = Book(Stock(), Function('f', 1, [('input', 0), ('sign', 1), ('call', 'f', 0), ('ask', 0, 1, 2)]))
>>> [book.rounds, book.function_table('f').least, book.round_of('f', (0,)), book.answer_of('f', (1,))]
[1, [((0,), 1)], 1, None]
"""


class DocumentTest(unittest.TestCase):
    def check(self, text):
        test = doctest.DocTestParser().get_doctest(text, {}, "example", None, None)
        told = doctest.DocTestRunner().run(test)
        self.assertGreater(told.attempted, 1)
        self.assertEqual(told.failed, 0)

    def test_sheets(self):
        self.check(SHEETS)

    def test_barred(self):
        self.check(BARRED)

    def test_books(self):
        self.check(BOOKS)

    def test_conflict(self):
        from neverboxes.tables import Table
        self.assertEqual(raised(Table, 2, [((1, None), 1), ((None, 1), 0)]), ("Conflict", 0, 1))
