import random
import unittest

from neverboxes.bench import Bench
from neverboxes.boxes import Stock
from neverboxes.programs import Program
from tests.definitions import THREE_ROWS, and_table, lots_of
from tests.samples import or_table, rows_of, yes_table
from tests.test_bench import drawn_deed, or_bench

NEGATION = Program(Stock(), 1, [("input", 0), ("sign", 0), ("sign", 1), ("ask", 0, 2, 1)])


def plain_text(row):
    return "".join("~" if value is None else str(value) for value in row) or "."


class SayingTest(unittest.TestCase):
    def test_example_of_the_document(self):
        bench = Bench()
        bench.do(("box", "or", or_table()), ("list", "rows", [(1, None), (None, 1), (0, 0)]))
        said = ["forced rows", "reach rows 0 1", "reach rows 0 2", "columns rows", "sure rows"]
        self.assertEqual([*[bench(line) for line in said], bench.history()], ["4", "0 1", "open", "21", "???", (1, 0)])
        self.assertEqual(bench.log(), list(zip(said, ["4", "0 1", "open", "21", "???"])))

    def test_names(self):
        bench = Bench()
        self.assertEqual([bench.say(word) for word in ("boxes", "lists", "programs")], ["none"] * 3)
        bench = or_bench()
        bench.do(("program", "a", NEGATION))
        self.assertEqual([bench.say(line=word) for word in ("boxes", "lists", "programs")],
                         ["or no", "rows other", "either a"])

    def test_forced(self):
        bench = or_bench()
        self.assertEqual([bench("forced rows"), bench("forced other")], ["4", str(len(bench.list_sheet("other")))])
        bench.do(("drop", "either"), ("unbox", "or"))
        self.assertEqual(bench("forced rows"), "5")

    def test_reach(self):
        bench = or_bench()
        for name, count in (("rows", 3), ("other", 3)):
            sheet = bench.list_sheet(name)
            for lot in lots_of(count):
                expected = " ".join(str(row) for row in sheet.reach(lot)) if lot in sheet else "open"
                self.assertEqual(bench(" ".join(["reach", name, *map(str, lot)])), expected)
        self.assertEqual([bench("reach other 2"), bench("reach other 0 1")], ["0 1 2", "open"])

    def test_words_that_are_no_lot(self):
        bench = or_bench()
        for words in ("3", "-1", "00", "01", "0 0", "1 0", "0 1 2 3", "x", "0 x", "0,1", "+1", "1.", "~", "(0,)",
                      "9" * 5000, "0 1 01", "None", "True", "0\t1"):
            self.assertEqual(bench("reach rows " + words), "error InvalidLot", words)
        self.assertEqual([bench("reach nothing x"), bench("reach either 0"), bench("reach or 0")],
                         ["error UnknownName"] * 3)
        self.assertEqual([bench("reach rows"), bench("reach"), bench("reach rows "), bench("reach rows  0")],
                         ["unknown"] * 4)

    def test_columns(self):
        bench = or_bench()
        self.assertEqual(bench("columns rows"), "21")
        bench.do(("see", "rows", 0, 1))
        self.assertEqual(bench("columns rows"), "6")

    def test_sure_and_next(self):
        bench = or_bench()
        self.assertEqual([bench("sure rows"), bench("next rows")], ["???", str(bench.half_seen("rows").next_row())])
        bench.do(("see", "rows", 0, 1))
        self.assertEqual([bench("sure rows"), bench("next rows")], ["1??", "2"])
        bench.do(("see", "rows", 2, None))
        self.assertEqual([bench("sure rows"), bench("next rows")], ["1?~", "1"])
        bench.do(("see", "rows", 1, None))
        self.assertEqual([bench("sure rows"), bench("next rows")], ["1~~", "none"])
        # A value at the least row settles all of them.
        bench.do(("see", "other", 2, 0))
        self.assertEqual([bench("sure other"), bench("next other")], ["000", "none"])

    def test_value(self):
        bench = or_bench()
        bench.do(("program", "turn", NEGATION), ("program", "yes", Program(Stock(), 0, [("sign", 1)])))
        for row in rows_of(2, 2):
            value = or_table()(row)
            self.assertEqual(bench("value either " + plain_text(row)), "~" if value is None else str(value))
        self.assertEqual([bench("value turn " + word) for word in "~01"], ["~", "1", "0"])
        self.assertEqual(bench("value yes ."), "1")
        for line in ("value either 0", "value either 000", "value either 02", "value either .", "value either 0-",
                     "value either x", "value yes 0", "value yes ~", "value turn .", "value turn ..", "value turn 2",
                     "value either " + "0" * 5000):
            self.assertEqual(bench(line), "error InvalidRow", line)
        self.assertEqual([bench("value rows 0"), bench("value or 0"), bench("value x x")], ["error UnknownName"] * 3)
        for line in ("value", "value either", "value either 0 0", "value yes ", "value yes"):
            self.assertEqual(bench(line), "unknown", line)

    def test_three_signs(self):
        bench = Bench(signs=3)
        lines = [("input", 0), ("sign", 2), ("ask", 0, 0, 1, 0)]
        bench.do(("program", "p", Program(Stock(signs=3), 1, lines)), ("list", "l", [(2,), (None,)]))
        self.assertEqual([bench("value p " + word) for word in "~0123"], ["~", "0", "2", "2", "error InvalidRow"])
        bench.do(("see", "l", 0, 2))
        self.assertEqual([bench("sure l"), bench("columns l"), bench("reach l 0"), bench("reach l 1")],
                         ["2?", "2", "0", "0 1"])

    def test_undo_and_redo(self):
        bench = or_bench()
        self.assertEqual([bench(line) for line in ("undo", "boxes", "redo", "boxes")], ["done", "or", "done", "or no"])
        self.assertEqual([bench("redo"), bench("undo"), bench("undo"), bench("undo"), bench.history()],
                         ["error NothingLeft", "done", "done", "error NothingLeft", (0, 2)])
        bench.begin()
        self.assertEqual([bench("undo"), bench("redo")], ["error InDraft"] * 2)
        self.assertEqual(len(bench.log()), 10)

    def test_names_that_are_no_list(self):
        bench = or_bench()
        for word in ("forced", "columns", "sure", "next"):
            for name in ("or", "either", "nothing", "Rows", "rows!", "0", "~", "rows,other"):
                self.assertEqual(bench(f"{word} {name}"), "error UnknownName")
            for line in (word, word + " ", word + " rows other", word + "  rows", " " + word + " rows",
                         word + " rows ", word.upper() + " rows", word + " rows\n", word + "\nrows"):
                self.assertEqual(bench(line), "unknown", line)

    def test_unknown_lines(self):
        bench = or_bench()
        for line in ("", " ", "\n", "x", "boxes ", " boxes", "boxes\n", "\nboxes", "boxes rows", "lists 1", "lists .",
                     "undo 1", "undo\n", "redo redo", "Boxes", "box or", "do", "see rows 0 1", "reach rows 0\n",
                     "reach rows\n0", "none", "value either 00\n", "boxes\nlists", "forced  ", "forced" * 1000):
            self.assertEqual(bench(line), "unknown", line)
        self.assertEqual(bench.history(), (2, 0))
        self.assertEqual([line for line, _ in bench.log()][:4], ["", " ", "\n", "x"])

    def test_log(self):
        bench = or_bench()
        lines = ["boxes", "undo", "nothing", "forced x", "redo"]
        answers = [bench.say(lines[0]), bench(lines[1]), bench(line=lines[2]), bench.say(lines[3]), bench(lines[4])]
        self.assertEqual(answers, ["or no", "done", "unknown", "error UnknownName", "done"])
        self.assertEqual(bench.log(), list(zip(lines, answers)))
        bench.log().clear()
        bench.undo()
        self.assertEqual(len(bench.log()), 5)

    def test_lines_that_ask_change_nothing(self):
        bench = or_bench()
        twin = bench.twin()
        for line in ("forced rows", "reach rows 0", "columns rows", "sure rows", "next rows", "value either 00",
                     "lists"):
            bench(line)
        self.assertEqual([bench, bench.history(), bench.journal()], [twin, twin.history(), twin.journal()])

    def test_drawn_benches(self):
        chance = random.Random(38)
        for at in range(20):
            bench = Bench(signs=2 + at % 2)
            for _ in range(40):
                try:
                    bench.do(drawn_deed(chance, bench))
                except (ValueError, LookupError):
                    continue
            for name in bench.list_names():
                half = bench.half_seen(name)
                sure = "".join("?" if row in half.open_rows() else plain_text((half.possible(row)[0],))
                               for row in range(len(half.sheet.rows())))
                following = "none" if half.open_rows() == [] else str(half.next_row())
                self.assertEqual([bench("sure " + name), bench("columns " + name), bench("next " + name)],
                                 [sure, str(half.number()), following])
            for name in bench.program_names():
                for row in rows_of(2, bench.signs):
                    self.assertEqual(bench(f"value {name} {plain_text(row)}"),
                                     plain_text((bench.named_program(name)(row),)))

    def test_words_of_other_boxes(self):
        bench = Bench()
        bench.do(("box", "boxes", and_table()), ("list", "forced", THREE_ROWS), ("box", "undo", yes_table()))
        self.assertEqual([bench("boxes"), bench("lists"), bench("forced forced"), bench("forced boxes")],
                         ["boxes undo", "forced", "4", "error UnknownName"])
