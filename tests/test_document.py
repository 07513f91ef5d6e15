"""The examples at the end of the document, run as they stand there."""

import doctest
import unittest

from neverboxes.tables import Table
from tests.samples import raised

SHEETS = """
>>> from neverboxes.boxes import Box, Stock
>>> from neverboxes.everything import or_table
>>> from neverboxes.sheets import sheet_of
>>> rows = [(1, None), (None, 1), (0, 0)]
>>> with_or = sheet_of(rows, Stock(Box('or', or_table(2))))
>>> [with_or.pairs(), with_or.open_lots(), with_or.number(), sheet_of(rows, Stock()).number()]
[[((0,), (0,)), ((1,), (1,)), ((2,), (2,)), ((0, 1), (0, 1))], [(0, 2), (1, 2), (0, 1, 2)], 21, 17]
"""
BARRED = """
>>> from neverboxes.boxes import Stock
>>> from neverboxes.everything import or_table
>>> from neverboxes.tablemaking import barred
>>> barred(or_table(2), Stock())
(((None, 1), (0, 0), (1, None)), (0, 2), 0, 1)
"""
BOOKS = """
>>> from neverboxes.boxes import Stock
>>> from neverboxes.functions import Book, Function
>>> book = Book(Stock(), Function('f', 1, [('input', 0), ('sign', 1), ('call', 'f', 0), ('ask', 0, 1, 2)]))
>>> [book.rounds, book.function_table('f').least, book.round_of('f', (0,)), book.answer_of('f', (1,))]
[1, [((0,), 1)], 1, None]
"""
TREES = """
>>> from neverboxes.tables import Table
>>> from neverboxes.trees import best_tree, number_of_trees, tree_depth
>>> table = Table(2, [((1, None), 1), ((0, 0), 0), ((0, 1), 1)])
>>> [best_tree(table), number_of_trees(table), tree_depth(best_tree(table)), table.hangs]
[(0, ((1, (0, 1)), 1)), 1, 2, [(None, 0), (None, 1), (0, None)]]
"""
HALF_SEEN = """
>>> from neverboxes.boxes import Box, Stock
>>> from neverboxes.everything import or_table
>>> from neverboxes.halfseen import HalfSeen
>>> from neverboxes.sheets import sheet_of
>>> seen = HalfSeen(sheet_of([(1, None), (None, 1), (0, 0)], Stock(Box('or', or_table(2)))))
>>> done = seen.see(0, 1)
>>> [seen.number(), seen.possible(1), seen.shares(1), seen.shares(2), seen.next_row(), seen.sure]
[6, [None, 1], {None: 3, 1: 3}, {None: 2, 0: 2, 1: 2}, 2, {0: 1}]
"""
BENCHES = """
>>> from neverboxes.bench import Bench
>>> from neverboxes.everything import or_table
>>> bench = Bench()
>>> done = bench.do(('box', 'or', or_table(2)), ('list', 'rows', [(1, None), (None, 1), (0, 0)]))
>>> said = ['forced rows', 'reach rows 0 1', 'reach rows 0 2', 'columns rows', 'sure rows']
>>> [*[bench(line) for line in said], bench.history()]
['4', '0 1', 'open', '21', '???', (1, 0)]
"""


class DocumentTest(unittest.TestCase):
    def check(self, text):
        test = doctest.DocTestParser().get_doctest(text, {}, "example", None, None)
        told = doctest.DocTestRunner().run(test)
        self.assertGreater(told.attempted, 1)
        self.assertEqual(told.failed, 0)

    def test_sheets(self):
        self.check(SHEETS)

    def test_barred(self):
        self.check(BARRED)

    def test_books(self):
        self.check(BOOKS)

    def test_trees(self):
        self.check(TREES)

    def test_half_seen(self):
        self.check(HALF_SEEN)

    def test_benches(self):
        self.check(BENCHES)

    def test_conflict(self):
        self.assertEqual(raised(Table, 2, [((1, None), 1), ((None, 1), 0)]), ("Conflict", 0, 1))
