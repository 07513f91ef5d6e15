"""That every function and method of the package takes its arguments by name, in any order."""

import importlib
import inspect
import unittest

from neverboxes.bench import Bench
from neverboxes.boxes import Box, Stock
from neverboxes.firing import Firing
from neverboxes.functions import Book, Function
from neverboxes.halfseen import HalfSeen
from neverboxes.nets import Net
from neverboxes.programs import Program
from neverboxes.sheets import Sheet, sheet_of
from neverboxes.tables import Table
from neverboxes.trees import TreeWalk
from neverboxes.wishes import Wish
from tests.definitions import THREE_ROWS
from tests.samples import not_table, or_table
from tests.test_conventions import MODULES

OR = or_table()
BOX = Box("or", OR)
STOCK = Stock(BOX)
SHEET = sheet_of(THREE_ROWS, STOCK)
PLAIN = sheet_of(THREE_ROWS, Stock())
PROGRAM = Program(STOCK, 2, [("input", 0), ("input", 1), ("box", "or", 0, 1)])
NET = Net(STOCK, 1, [("input", 0), ("box", "or", 0, 1)])
BOOK = Book(STOCK, Function("f", 1, [("input", 0), ("call", "f", 0), ("box", "or", 0, 1)]))
TREE = (0, (1, (1, (0, 1))))
PAIRS = SHEET.pairs()
PICK = ((1, None), (None, 1))
STOCK_TEXT = "stock 2\nbox or 2\ncase ~1 1\ncase 00 0\ncase 1~ 1\nend\n"
PROGRAM_TEXT = "program 2\ninput 0\ninput 1\nbox or 0 1\nend\n"


def bench():
    told = Bench()
    told.do(("box", "or", OR), ("list", "rows", THREE_ROWS), ("program", "p", PROGRAM))
    return told


def half(*seen):
    told = HalfSeen(SHEET)
    for row, value in seen:
        told.see(row, value)
    return told


# For each function, class and method with parameters: arguments for them, in order. Behind a class stands
# what makes an object of it for its methods.
ARGUMENTS = {
    "values.is_number": (1, 0, 2), "values.is_name": ("or",), "values.is_sign": (2, 3), "values.is_value": (2, 3),
    "values.is_row": ((0, 2), 2, 3),
    "rows.is_below": ((None,), (0,)), "rows.rows_fit": ((None,), (0,)), "rows.joined": ((None,), (0,)),
    "rows.common": ((None,), (0,)), "rows.in_order": ([(0,), (None,)],), "rows.every_row": (2, 3),
    "rows.row_text": ((0, None),), "rows.read_row": ("2~", 3),
    "tables.Table": (1, [((2,), 1)], 3), "tables.Table.matches": (not_table(),), "tables.Table.below": (OR,),
    "tables.Table.of_values": (1, [None, 0, 1, 2], 3), "tables.Table.__call__": ((0, 0),),
    "tablework.wired": (OR, [2, 0], 3), "tablework.fixed": (OR, 1, None), "tablework.turned": (OR, [1, 0]),
    "tablework.turned_input": (OR, 1, [1, 0]), "tablework.parting_row": (OR, Table(2, [])),
    "boxes.Box": ("or", OR), "boxes.Stock": (3,), "boxes.Stock.box": ("or",),
    "boxes.Stock.with_box": (Box("no", not_table()),), "boxes.Stock.without": ("or",), "boxes.Stock.only": (["or"],),
    "stocktexts.stock_text": (STOCK,), "stocktexts.read_stock": (STOCK_TEXT,),
    "lines.is_line": (("ask", 0, 1, 1), 2, 0, STOCK), "lines.references": (("box", "or", 3, 4),),
    "lines.line_text": (("box", "or", 3, 4),), "lines.line_value": (("box", "or", 1, 0), (), [None, 1], STOCK),
    "programs.Program": (STOCK, 2, [("input", 1)]), "programs.Program.__call__": ((1, None),),
    "programs.Program.column": ([(1, None)],),
    "programtexts.program_text": (PROGRAM,), "programtexts.read_program": (PROGRAM_TEXT, STOCK),
    "composing.put_into": (PROGRAM, [PROGRAM, PROGRAM], 2), "composing.programs_part": (PROGRAM, PROGRAM),
    "lots.is_lot": ((0, 2), 3), "lots.is_column": ((0, 2), 2, 3), "lots.every_lot": (3,), "lots.is_pairs": (PAIRS, 3),
    "lots.answers_on": ((1, None), (0,)), "lots.alike_on": ((1, 0), (0, 1)),
    "lots.keeps_pair": ((1, 0), ((0,), (0, 1))), "lots.first_broken": ((1, 0, 1), PAIRS),
    "lots.check_rows": (THREE_ROWS, 2), "lots.check_picks": (3, STOCK), "lots.thinned": ([(0,), (0,)], (0, 1)),
    "asking.told_inputs": (THREE_ROWS, (0, 2)), "asking.asking_pairs": (THREE_ROWS, 2),
    "filling.filled": (PAIRS, (1, 1, None)), "filling.fill_steps": (PAIRS, (1, 1, None)),
    "picks.every_pick": ((0, 1), BOX), "picks.told_columns": (3, (0, 1), BOX, PICK),
    "picks.outcome": (3, PAIRS, (0, 1), BOX, PICK), "picks.effect": (3, PAIRS, (0, 1), BOX, PICK),
    "closed.fault": (THREE_ROWS, STOCK, PLAIN.pairs()), "closed.is_closed": (THREE_ROWS, STOCK, PAIRS),
    "sheets.Sheet.reach": ((0, 1),), "sheets.Sheet.keeps": ((1, 1, 0),), "sheets.Sheet.broken": ((1, 0, 0),),
    "sheets.Sheet.filling": ((1, 1, None),), "sheets.Sheet.steps": ((1, 1, None),),
    "sheets.sheet_of": (THREE_ROWS, STOCK), "sheets.strikes": (THREE_ROWS, STOCK),
    "making.make": (SHEET, (1, 1, 0)), "making.splitter": (SHEET, (0, 1, 2)), "making.guard": (SHEET, (0, 1)),
    "tablemaking.test_lists": (OR,), "tablemaking.barred": (OR, Stock()), "tablemaking.makes": (STOCK, not_table()),
    "tablemaking.make_table": (not_table(), STOCK),
    "certificates.shows_column": (THREE_ROWS, STOCK, (1, 1, 0), PROGRAM),
    "certificates.bars_column": (THREE_ROWS, STOCK, (1, 0, 0), (PAIRS, (0, 1), 0, 1)),
    "certificates.shows_open": (THREE_ROWS, STOCK, (0, 2), PROGRAM),
    "certificates.shows_reach": (THREE_ROWS, STOCK, (0, 1), (0, 1), PAIRS, PROGRAM),
    "certificates.certificate": (SHEET, (1, 0, 0)),
    "wishes.Wish.lets": (0, 1), "wishes.Wish.met_by": ((1, None, 0),), "wishes.Wish.read": ("1 ?",),
    "wishes.least_column": (SHEET, Wish("1", "1", "?")), "wishes.choice_fails": (SHEET, Wish("1", "!", "?")),
    "wishes.may_be": (SHEET, Wish("1", "1", "?"), 2), "wishes.wish_program": (SHEET, Wish("1", "1", "?")),
    "functions.Function": ("f", 1, [("input", 0)]), "functions.Book": (STOCK,), "functions.Book.function_table": ("f",),
    "functions.Book.box": ("f",), "functions.Book.answer_of": ("f", (1,)), "functions.Book.round_of": ("f", (1,)),
    "nets.Net": (STOCK, 1, [("input", 0)]), "nets.Net.rest_values": ((1,),), "nets.Net.cell_table": (1,),
    "nets.Net.written": (1,),
    "firing.Firing": (NET, (1,)), "firing.Firing.fire": (0,),
    "powers.makes_stock": (STOCK, Stock()), "powers.compare": (STOCK, Stock()), "powers.spare_boxes": (STOCK,),
    "powers.least_sets": (STOCK,), "powers.cheapest": (STOCK, {"or": 1}, OR),
    "powers.cheaper_sets": (STOCK, {"or": 1}, OR),
    "everything.or_table": (3,), "everything.at_once_table": (3,), "everything.makes_all": (STOCK,),
    "everything.or_program": (STOCK,), "everything.at_once_program": (STOCK,),
    "everything.any_program": (not_table(), STOCK), "everything.hang_together": (THREE_ROWS, (0, 1)),
    "everything.widest_pairs": (THREE_ROWS, 3),
    "onebox.one_box": (STOCK, "one"), "onebox.one_box_program": (STOCK, "one"),
    "onebox.picked_program": (STOCK, "one", "or"),
    "asks.askable": (OR, (0, None)), "asks.stuck_rows": (OR,), "asks.needs_no_box": (OR,),
    "asks.stuck_list": (OR, (None, None)),
    "trees.is_tree": (TREE, 2, 2), "trees.tree_value": (TREE, (1, 0)), "trees.tree_depth": (TREE,),
    "trees.best_tree": (not_table(),), "trees.number_of_trees": (not_table(),), "trees.every_tree": (not_table(),),
    "trees.tree_program": (TREE, 2, STOCK), "trees.TreeWalk": (TREE,), "trees.TreeWalk.tell": (1,),
    "halfseen.HalfSeen": (SHEET,), "halfseen.HalfSeen.see": (1, 1), "halfseen.HalfSeen.unsee": (0,),
    "halfseen.HalfSeen.possible": (1,), "halfseen.HalfSeen.shares": (1,), "halfseen.HalfSeen.parting": (1,),
    "helpers.with_helpers": (THREE_ROWS, [(0, 0, 2)], 3), "helpers.helped_sheet": (SHEET, [(1, 1, 0)]),
    "helpers.adds_nothing": (SHEET, (1, 1, 0)), "helpers.table_behind": (THREE_ROWS, (1, 1, 2), 3),
    "led.left_out": (SHEET, [0]), "led.row_added": (SHEET, (1, 0)), "led.reordered": (SHEET, [2, 0, 1]),
    "led.rewired": (SHEET, [1]), "led.signs_exchanged": (SHEET, 1, [1, 0]), "led.made_rows": (THREE_ROWS, [PROGRAM]),
    "bench.Bench": (3,), "bench.Bench.list_sheet": ("rows",), "bench.Bench.half_seen": ("rows",),
    "bench.Bench.named_program": ("p",), "bench.Bench.trial": (lambda told: True,),
    "bench.Bench.replayed": ([("list", "a", [(2,)])], 3), "bench.Bench.say": ("forced rows",),
    "bench.Bench.__call__": ("forced rows",),
}
OBJECTS = {
    "Table": lambda: OR, "Stock": lambda: STOCK, "Program": lambda: PROGRAM, "Sheet": lambda: SHEET,
    "Wish": lambda: Wish("1", "~", "0?"), "Book": lambda: BOOK, "Net": lambda: NET, "Firing": lambda: Firing(NET, (1,)),
    "TreeWalk": lambda: TreeWalk(TREE), "HalfSeen": lambda: half((0, 1)), "Bench": bench,
}
OPERATORS = ("__contains__", "__eq__", "__or__", "__and__", "__getitem__")


def parameters(callable_object):
    """The parameters that have one argument each, without the object of a method."""
    told = inspect.signature(callable_object).parameters.values()
    return [part for part in told if part.name != "self" and part.kind is not part.VAR_POSITIONAL]


def interface():
    """The functions, classes and methods of the interface with parameters, by their full names."""
    for module, names in MODULES.items():
        loaded = importlib.import_module("neverboxes." + module)
        for name, told in names.items():
            found = getattr(loaded, name)
            if isinstance(told, str) or "__init__" in told:
                if parameters(found):
                    yield f"{module}.{name}", found, None
            for method in told if isinstance(told, dict) else ():
                if told[method] is not None and method != "__init__" and method not in OPERATORS:
                    if parameters(vars(found)[method].__func__ if method in ("read", "of_values", "replayed")
                                  else vars(found)[method]):
                        yield f"{module}.{name}.{method}", method, OBJECTS[name]


def plain(value):
    """What a call has returned, in a form that can be compared."""
    if inspect.isgenerator(value):
        return list(value)
    if isinstance(value, (Net, Firing, TreeWalk, HalfSeen, Function, Book)):
        return (type(value), {name: plain(part) for name, part in vars(value).items()})
    return value


class NamesTest(unittest.TestCase):
    def test_all_are_here(self):
        self.assertEqual(sorted(name for name, _, _ in interface()), sorted(ARGUMENTS))

    def test_by_position_and_by_name(self):
        for full, found, made in interface():
            given = ARGUMENTS[full]
            results, behind = [], []
            for way in ("position", "names", "backwards"):
                held = made() if made else None
                call = getattr(held, found) if made else found
                told = parameters(call)
                self.assertEqual(len(told), len(given), full)
                named = {part.name: value for part, value in zip(told, given)}
                if way == "position":
                    keyword_only = {part.name for part in told if part.kind is part.KEYWORD_ONLY}
                    rest = {name: value for name, value in named.items() if name in keyword_only}
                    results.append(plain(call(*[named[name] for name in named if name not in keyword_only], **rest)))
                else:
                    order = list(named) if way == "names" else list(reversed(list(named)))
                    results.append(plain(call(**{name: named[name] for name in order})))
                behind.append(plain(held))
            self.assertEqual(results[0], results[1], full)
            self.assertEqual(results[0], results[2], full)
            self.assertEqual(behind[0], behind[2], full)

    def test_sheets_are_made_by_functions_alone(self):
        self.assertIsInstance(SHEET, Sheet)
