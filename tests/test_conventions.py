"""What [2] and the interface ask of all modules: names, parameters, defaults, and where things are defined."""

import importlib
import inspect
import unittest

MODULES = {
    "values": {
        "is_number": "(value, least, most)", "is_name": "(value)", "is_sign": "(value, signs)",
        "is_value": "(value, signs)", "is_row": "(value, inputs, signs)",
    },
    "rows": {
        "is_below": "(one, other)", "rows_fit": "(one, other)", "joined": "(one, other)", "common": "(one, other)",
        "in_order": "(rows)", "every_row": "(inputs, *, signs=2)", "row_text": "(row)",
        "read_row": "(text, *, signs=2)",
    },
    "tables": {
        "Table": {
            "__init__": "(self, inputs, cases, *, signs=2)", "__call__": "(self, row)", "all_values": "(self)",
            "matches": "(self, other)", "below": "(self, other)", "__eq__": "(self, other)",
            "__or__": "(self, other)", "__and__": "(self, other)", "__len__": "(self)", "__bool__": "(self)",
            "__repr__": "(self)", "of_values": "(inputs, values, *, signs=2)", "least": None, "hangs": None,
        },
    },
    "tablework": {
        "wired": "(table, places, inputs)", "fixed": "(table, at, value)", "turned": "(table, order)",
        "turned_input": "(table, at, order)", "parting_row": "(one, other)",
    },
    "boxes": {
        "Box": {"__init__": "(self, name, table)", "__eq__": "(self, other)", "__repr__": "(self)"},
        "Stock": {
            "__init__": "(self, *boxes, signs=2)", "boxes": "(self)", "names": "(self)", "box": "(self, name)",
            "with_box": "(self, box)", "without": "(self, name)", "only": "(self, names)",
            "__contains__": "(self, x)", "__eq__": "(self, other)", "__len__": "(self)", "__bool__": "(self)",
            "__repr__": "(self)",
        },
    },
    "stocktexts": {"stock_text": "(stock)", "read_stock": "(text)"},
    "lines": {
        "is_line": "(value, at, inputs, stock)", "references": "(line)", "line_text": "(line)",
        "line_value": "(line, row, values, stock)",
    },
    "programs": {
        "Program": {
            "__init__": "(self, stock, inputs, lines)", "lines": "(self)", "__call__": "(self, row)",
            "column": "(self, rows)", "as_table": "(self)", "used": None, "pruned": "(self)",
            "__eq__": "(self, other)", "__len__": "(self)", "__repr__": "(self)",
        },
    },
    "programtexts": {"program_text": "(program)", "read_program": "(text, stock)"},
    "composing": {"put_into": "(outer, inners, *, inputs)", "programs_part": "(one, other)"},
    "lots": {
        "is_lot": "(value, count)", "is_column": "(value, count, signs)", "every_lot": "(count)",
        "is_pairs": "(value, count)", "answers_on": "(column, lot)", "alike_on": "(column, lot)",
        "keeps_pair": "(column, pair)", "first_broken": "(column, pairs)", "check_rows": "(rows, signs)",
        "check_picks": "(many, stock)", "thinned": "(rows, lot)",
    },
    "asking": {"told_inputs": "(rows, lot)", "asking_pairs": "(rows, signs)"},
    "filling": {"filled": "(pairs, column)", "fill_steps": "(pairs, column)"},
    "picks": {
        "every_pick": "(lot, box)", "told_columns": "(count, lot, box, pick)",
        "outcome": "(count, pairs, lot, box, pick)", "effect": "(count, pairs, lot, box, pick)",
    },
    "closed": {"fault": "(rows, stock, pairs)", "is_closed": "(rows, stock, pairs)"},
    "sheets": {
        "Sheet": {
            "rows": "(self)", "pairs": "(self)", "reach": "(self, lot)", "__getitem__": "(self, at)",
            "__contains__": "(self, x)", "open_lots": "(self)", "keeps": "(self, column)", "broken": "(self, column)",
            "filling": "(self, column)", "steps": "(self, column)", "number": "(self)", "every_column": "(self)",
            "__eq__": "(self, other)", "__len__": "(self)", "__repr__": "(self)",
        },
        "sheet_of": "(rows, stock)", "strikes": "(rows, stock)",
    },
    "making": {"make": "(sheet, column)", "splitter": "(sheet, lot)", "guard": "(sheet, lot)"},
    "tablemaking": {
        "test_lists": "(table)", "barred": "(table, stock)", "makes": "(stock, table)", "make_table": "(table, stock)",
    },
    "certificates": {
        "shows_column": "(rows, stock, column, program)", "bars_column": "(rows, stock, column, value)",
        "shows_open": "(rows, stock, lot, program)",
        "shows_reach": "(rows, stock, lot, reach, pairs, program)", "certificate": "(sheet, column)",
    },
    "wishes": {
        "Wish": {
            "__init__": "(self, *items)", "parts": "(self)", "lets": "(self, at, value)", "met_by": "(self, column)",
            "text": "(self)", "read": "(text)", "__eq__": "(self, other)", "__len__": "(self)",
            "__bool__": "(self)", "__repr__": "(self)",
        },
        "least_column": "(sheet, wish)", "choice_fails": "(sheet, wish)", "may_be": "(sheet, wish, row)",
        "wish_program": "(sheet, wish)",
    },
    "functions": {
        "Function": {"__init__": "(self, name, inputs, lines)", "lines": "(self)"},
        "Book": {
            "__init__": "(self, stock, *functions)", "names": "(self)", "rounds": None,
            "function_table": "(self, name)", "box": "(self, name)", "answer_of": "(self, name, row)",
            "round_of": "(self, name, row)", "full_stock": "(self)", "__len__": "(self)", "__bool__": "(self)",
            "__repr__": "(self)",
        },
    },
    "nets": {
        "Net": {
            "__init__": "(self, stock, inputs, cells)", "cells": "(self)", "rest_values": "(self, row)",
            "cell_table": "(self, cell)", "written": "(self, cell)", "answering": "(self)", "__len__": "(self)",
            "__repr__": "(self)",
        },
    },
    "firing": {
        "Firing": {
            "__init__": "(self, net, row)", "values_now": "(self)", "ready": "(self)", "rest": None,
            "fire": "(self, cell)", "undo": "(self)", "finish": "(self)", "twin": "(self)", "__repr__": "(self)",
        },
    },
    "powers": {
        "makes_stock": "(one, other)", "compare": "(one, other)", "spare_boxes": "(stock)", "least_sets": "(stock)",
        "cheapest": "(stock, prices, table)", "cheaper_sets": "(stock, prices, table)",
    },
    "everything": {
        "or_table": "(signs)", "at_once_table": "(signs)", "makes_all": "(stock)", "or_program": "(stock)",
        "at_once_program": "(stock)", "any_program": "(table, stock)", "hang_together": "(rows, lot)",
        "widest_pairs": "(rows, signs)",
    },
    "onebox": {
        "one_box": "(stock, name)", "one_box_program": "(stock, name)", "picked_program": "(stock, name, box)",
    },
    "asks": {
        "askable": "(table, row)", "stuck_rows": "(table)", "needs_no_box": "(table)", "stuck_list": "(table, row)",
    },
    "trees": {
        "is_tree": "(value, inputs, signs)", "tree_value": "(tree, row)", "tree_depth": "(tree)",
        "best_tree": "(table)", "number_of_trees": "(table)", "every_tree": "(table)",
        "tree_program": "(tree, inputs, stock)",
        "TreeWalk": {
            "__init__": "(self, tree)", "asked": None, "ended": None, "answer": None, "tell": "(self, value)",
            "undo": "(self)", "told": "(self)",
        },
    },
    "halfseen": {
        "HalfSeen": {
            "__init__": "(self, sheet)", "see": "(self, row, value)", "unsee": "(self, row)", "seen": "(self)",
            "possible": "(self, row)", "sure": None, "open_rows": "(self)", "number": "(self)",
            "shares": "(self, row)", "next_row": "(self)", "parting": "(self, row)", "twin": "(self)",
            "__len__": "(self)", "__bool__": "(self)", "__repr__": "(self)",
        },
    },
    "helpers": {
        "with_helpers": "(rows, columns, signs)", "helped_sheet": "(sheet, columns)",
        "adds_nothing": "(sheet, column)", "table_behind": "(rows, column, signs)",
    },
    "led": {
        "left_out": "(sheet, numbers)", "row_added": "(sheet, row)", "reordered": "(sheet, order)",
        "rewired": "(sheet, places)", "signs_exchanged": "(sheet, at, order)", "made_rows": "(rows, programs)",
    },
    "bench": {
        "Bench": {
            "__init__": "(self, *, signs=2)", "do": "(self, *deeds)", "undo": "(self)", "redo": "(self)",
            "history": "(self)", "present_stock": "(self)", "busy": None, "list_names": "(self)",
            "program_names": "(self)", "list_sheet": "(self, name)", "half_seen": "(self, name)",
            "named_program": "(self, name)", "begin": "(self)", "keep": "(self)", "leave": "(self)",
            "trial": "(self, function)", "journal": "(self)", "replayed": "(deeds, *, signs=2)",
            "tried": "(self, *deeds)", "say": "(self, line)", "__call__": "(self, line)", "log": "(self)",
            "twin": "(self)", "__eq__": "(self, other)", "__len__": "(self)", "__bool__": "(self)",
            "__repr__": "(self)",
        },
    },
}


class InterfaceTest(unittest.TestCase):
    def test_functions_and_classes_stand_in_their_files(self):
        for module, names in MODULES.items():
            full = "neverboxes." + module
            for name in names:
                self.assertEqual(getattr(importlib.import_module(full), name).__module__, full, name)

    def test_parameters(self):
        for module, names in MODULES.items():
            for name, told in names.items():
                found = getattr(importlib.import_module("neverboxes." + module), name)
                if isinstance(told, str):
                    self.assertEqual(str(inspect.signature(found)), told, name)
                else:
                    self.check_class(found, told)

    def check_class(self, found, methods):
        for name, told in methods.items():
            method = vars(found)[name]
            if told is None:
                self.assertIsInstance(method, property, name)
            else:
                plain = method.__func__ if isinstance(method, staticmethod) else method
                self.assertEqual(str(inspect.signature(plain)), told, name)
