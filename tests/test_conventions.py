"""What [2] and the interface ask of all modules: names, parameters, defaults, and where things are defined."""

import importlib
import inspect
import unittest

MODULES = {
    "values": {
        "is_number": "(value, least, most)", "is_name": "(value)", "is_sign": "(value, signs)",
        "is_value": "(value, signs)", "is_row": "(value, inputs, signs)",
    },
    "rows": {
        "is_below": "(one, other)", "rows_fit": "(one, other)", "joined": "(one, other)", "common": "(one, other)",
        "in_order": "(rows)", "every_row": "(inputs, *, signs=2)", "row_text": "(row)",
        "read_row": "(text, *, signs=2)",
    },
    "tables": {
        "Table": {
            "__init__": "(self, inputs, cases, *, signs=2)", "__call__": "(self, row)", "all_values": "(self)",
            "matches": "(self, other)", "below": "(self, other)", "__eq__": "(self, other)",
            "__or__": "(self, other)", "__and__": "(self, other)", "__len__": "(self)", "__bool__": "(self)",
            "__repr__": "(self)", "of_values": "(inputs, values, *, signs=2)", "least": None, "hangs": None,
        },
    },
    "tablework": {
        "wired": "(table, places, inputs)", "fixed": "(table, at, value)", "turned": "(table, order)",
        "turned_input": "(table, at, order)", "parting_row": "(one, other)",
    },
    "boxes": {
        "Box": {"__init__": "(self, name, table)", "__eq__": "(self, other)", "__repr__": "(self)"},
        "Stock": {
            "__init__": "(self, *boxes, signs=2)", "boxes": "(self)", "names": "(self)", "box": "(self, name)",
            "with_box": "(self, box)", "without": "(self, name)", "only": "(self, names)",
            "__contains__": "(self, x)", "__eq__": "(self, other)", "__len__": "(self)", "__bool__": "(self)",
            "__repr__": "(self)",
        },
    },
    "stocktexts": {"stock_text": "(stock)", "read_stock": "(text)"},
    "lines": {
        "is_line": "(value, at, inputs, stock)", "references": "(line)", "line_text": "(line)",
        "line_value": "(line, row, values, stock)",
    },
    "programs": {
        "Program": {
            "__init__": "(self, stock, inputs, lines)", "lines": "(self)", "__call__": "(self, row)",
            "column": "(self, rows)", "as_table": "(self)", "used": None, "pruned": "(self)",
            "__eq__": "(self, other)", "__len__": "(self)", "__repr__": "(self)",
        },
    },
    "programtexts": {"program_text": "(program)", "read_program": "(text, stock)"},
    "composing": {"put_into": "(outer, inners, *, inputs)", "programs_part": "(one, other)"},
}


class InterfaceTest(unittest.TestCase):
    def test_functions_and_classes_stand_in_their_files(self):
        for module, names in MODULES.items():
            full = "neverboxes." + module
            for name in names:
                self.assertEqual(getattr(importlib.import_module(full), name).__module__, full, name)

    def test_parameters(self):
        for module, names in MODULES.items():
            for name, told in names.items():
                found = getattr(importlib.import_module("neverboxes." + module), name)
                if isinstance(told, str):
                    self.assertEqual(str(inspect.signature(found)), told, name)
                else:
                    self.check_class(found, told)

    def check_class(self, found, methods):
        for name, told in methods.items():
            method = vars(found)[name]
            if told is None:
                self.assertIsInstance(method, property, name)
            else:
                plain = method.__func__ if isinstance(method, staticmethod) else method
                self.assertEqual(str(inspect.signature(plain)), told, name)
