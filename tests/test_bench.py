import random
import unittest

from neverboxes.bench import Bench
from neverboxes.boxes import Box, Stock
from neverboxes.halfseen import HalfSeen
from neverboxes.programs import Program
from neverboxes.sheets import sheet_of
from neverboxes.tables import Table
from tests.definitions import THREE_ROWS, and_table, gustave_table, layer_table
from tests.samples import (
    all_but, any_values, not_table, or_stock, or_table, raised, raised_is, rows_of, some_lines, some_table,
    yes_table,
)

EITHER = Program(or_stock(), 2, [("input", 0), ("input", 1), ("box", "or", 0, 1)])
NAMES_OF_DEEDS = ("box", "unbox", "list", "unlist", "program", "drop", "see", "unsee")


def or_bench():
    """A bench with two boxes, two lists and a program."""
    bench = Bench()
    bench.do(("box", "or", or_table()), ("list", "rows", list(THREE_ROWS)), ("program", "either", EITHER))
    bench.do(("list", "other", ((0,), (1,), (None,))), ("box", "no", not_table()))
    return bench


def drawn_name(chance, bench, word):
    """A name for a deed: most often one that it may have, if there is any."""
    boxes, lists, programs = bench.present_stock().names(), bench.list_names(), bench.program_names()
    every = [*boxes, *lists, *programs]
    fresh = [name for name in ("a", "b", "c", "d", "e", "f", "g", "h", "i") if name not in every]
    fine = {"box": fresh, "list": fresh, "program": fresh, "unbox": boxes, "drop": programs}.get(word, lists)
    if fine and chance.random() < 0.9:
        return chance.choice(fine)
    return chance.choice([*every, "x"])


def drawn_deed(chance, bench):
    """A deed that may be refused."""
    word = chance.choice([*NAMES_OF_DEEDS, "see", "see", "see", "box", "list", "program"])
    name = drawn_name(chance, bench, word)
    if word == "box":
        drawn = some_table(chance, chance.randrange(3), bench.signs, 3)
        return (word, name, chance.choice([or_table(bench.signs), and_table(bench.signs), drawn]))
    if word == "list":
        rows = [*THREE_ROWS, *rows_of(2, bench.signs)]
        return (word, name, [chance.choice(rows) for _ in range(chance.randint(1, 4))])
    if word == "program":
        stock = bench.present_stock()
        return (word, name, Program(stock, 2, some_lines(chance, stock, 2, 6)))
    if word == "see":
        return (word, name, chance.randrange(4), chance.choice([None, *range(bench.signs)]))
    return (word, name, chance.randrange(4)) if word == "unsee" else (word, name)


def look(bench):
    """All that a bench tells of its state."""
    lists = [(name, bench.list_sheet(name).rows(), bench.list_sheet(name).pairs(),
              list(bench.half_seen(name).seen().items())) for name in bench.list_names()]
    programs = [(name, bench.named_program(name).inputs, bench.named_program(name).lines())
                for name in bench.program_names()]
    return [bench.signs, bench.present_stock().boxes(), lists, programs, bench.history(), bench.journal(), bench.busy,
            bench.log()]


class RefusalTest(unittest.TestCase):
    def refused(self, bench, expected, *deeds):
        """Checks that a call with some deeds is refused and leaves all as it was."""
        before = look(bench)
        raised_is(self, raised(bench.do, *deeds), expected)
        raised_is(self, raised(bench.tried, *deeds), expected)
        self.assertEqual(look(bench), before)


class BenchTest(unittest.TestCase):
    def test_nothing(self):
        for signs in (2, 3):
            bench = Bench(signs=signs)
            self.assertEqual([bench.signs, bench.present_stock(), bench.list_names(), bench.program_names()],
                             [signs, Stock(signs=signs), [], []])
            self.assertEqual([bench.history(), bench.journal(), bench.busy, bench.log(), len(bench)],
                             [(0, 0), [], False, [], 0])
            self.assertEqual(repr(bench), "Bench(0 boxes, 0 lists, 0 programs)")
            self.assertIs(bool(bench), True)
        self.assertEqual(Bench().signs, 2)

    def test_signs(self):
        for value in all_but([2, 3]):
            raised_is(self, raised(Bench, signs=value), ("InvalidSigns", value))
            raised_is(self, raised(Bench.replayed, [], signs=value), ("InvalidSigns", value))

    def test_what_deeds_put(self):
        bench = or_bench()
        stock = Stock(Box("or", or_table()), Box("no", not_table()))
        self.assertEqual(bench.present_stock(), stock)
        self.assertEqual([bench.list_names(), bench.program_names()], [["rows", "other"], ["either"]])
        self.assertEqual(bench.list_sheet(name="rows"), sheet_of(THREE_ROWS, stock))
        self.assertEqual(bench.list_sheet("rows").stock, stock)
        self.assertEqual(bench.named_program(name="either"), Program(stock, 2, EITHER.lines()))
        half = bench.half_seen(name="other")
        self.assertIsInstance(half, HalfSeen)
        self.assertEqual([half.sheet, half.seen()], [sheet_of([(0,), (1,), (None,)], stock), {}])
        self.assertEqual([len(bench), repr(bench)], [2, "Bench(2 boxes, 2 lists, 1 programs)"])
        self.assertEqual(bench.history(), (2, 0))
        self.assertIs(bench.do(("unbox", "no")), None)
        self.assertEqual([len(bench), bench.list_sheet("rows").stock.names()], [1, ["or"]])
        bench.do(("drop", "either"), ("unlist", "rows"), ("unbox", "or"))
        self.assertEqual([bench.list_names(), bench.program_names(), len(bench)], [["other"], [], 0])

    def test_seen_values(self):
        bench = or_bench()
        bench.do(("see", "rows", 2, 0), ("see", "rows", 0, 1))
        self.assertEqual(list(bench.half_seen("rows").seen().items()), [(0, 1), (2, 0)])
        bench.do(("see", "rows", 0, 1))
        self.assertEqual([bench.history(), bench.half_seen("rows").seen()], [(4, 0), {0: 1, 2: 0}])
        bench.do(("unsee", "rows", 2), ("see", "rows", 1, None))
        self.assertEqual(bench.half_seen("rows").seen(), {0: 1, 1: None})
        # The seen values go with their list.
        rows = bench.list_sheet("rows").rows()
        bench.do(("unlist", "rows"), ("list", "rows", rows))
        self.assertEqual([bench.half_seen("rows").seen(), bench.list_names()], [{}, ["other", "rows"]])

    def test_a_list_that_comes_again_with_other_rows(self):
        bench = or_bench()
        self.assertEqual(len(bench.list_sheet("rows").rows()), 3)
        bench.do(("unlist", "rows"), ("list", "rows", [(0,)]))
        self.assertEqual(bench.list_sheet("rows").rows(), [(0,)])
        bench.undo()
        self.assertEqual(bench.list_sheet("rows").rows(), list(THREE_ROWS))

    def test_sheets_are_those_of_the_present_stock(self):
        bench = Bench()
        bench.do(("list", "rows", THREE_ROWS))
        self.assertEqual(bench.list_sheet("rows").number(), 17)
        bench.do(("box", "or", or_table()))
        self.assertEqual([bench.list_sheet("rows").number(), bench.half_seen("rows").number()], [21, 21])
        bench.undo()
        self.assertEqual([bench.list_sheet("rows").number(), bench.half_seen("rows").number()], [17, 17])
        bench.redo()
        bench.do(("unbox", "or"))
        self.assertEqual(bench.list_sheet("rows").number(), 17)

    def test_unknown_names(self):
        bench = or_bench()
        for value in all_but(["or"]):
            for call in (bench.list_sheet, bench.half_seen, bench.named_program):
                raised_is(self, raised(call, value), ("UnknownName", value))
        self.assertEqual([raised(bench.list_sheet, "either"), raised(bench.half_seen, "or"),
                          raised(bench.named_program, "rows")],
                         [("UnknownName", "either"), ("UnknownName", "or"), ("UnknownName", "rows")])

    def test_what_was_told_stays(self):
        bench = or_bench()
        stock, sheet, program = bench.present_stock(), bench.list_sheet("rows"), bench.named_program("either")
        half, number = bench.half_seen("rows"), bench.list_sheet("rows").number()
        half.see(0, 1)
        self.assertEqual(bench.half_seen("rows").seen(), {})
        bench.do(("see", "rows", 0, 0))
        bench.do(("box", "g", gustave_table()), ("drop", "either"), ("unbox", "or"), ("unlist", "rows"))
        self.assertEqual([stock.names(), sheet.number(), program.stock.names(), program((1, None)), half.seen()],
                         [["or", "no"], number, ["or", "no"], 1, {0: 1}])
        self.assertEqual(half.sheet, sheet)

    def test_lists_may_be_changed(self):
        bench, rows = Bench(), [(0,), (1,)]
        deed = ("list", "rows", rows)
        bench.do(deed)
        rows.append(5)
        self.assertEqual([bench.list_sheet("rows").rows(), bench.journal()[0][2]], [[(0,), (1,)], [(0,), (1,)]])
        bench.journal()[0][2].clear()
        bench.journal().clear()
        self.assertEqual(bench.journal(), [("list", "rows", [(0,), (1,)])])
        bench.list_names().clear()
        bench.program_names().append("x")
        bench.list_sheet("rows").rows().clear()
        bench.half_seen("rows").seen().update({0: 1})
        bench.present_stock().boxes().append(5)
        bench.tried()[1].clear()
        self.assertEqual(look(bench), look(Bench.replayed([("list", "rows", [(0,), (1,)])])))

    def test_equal(self):
        self.assertEqual(or_bench(), or_bench())
        self.assertEqual(Bench(), Bench())
        self.assertNotEqual(Bench(), Bench(signs=3))
        for deed in (("unbox", "no"), ("unlist", "other"), ("drop", "either"), ("see", "rows", 0, 1),
                     ("see", "rows", 0, None), ("box", "x", yes_table()), ("list", "x", [()])):
            bench = or_bench()
            bench.do(deed)
            self.assertNotEqual(bench, or_bench())
            bench.undo()
            self.assertEqual(bench, or_bench())
        # Neither the history nor the log nor a draft counts.
        bench = or_bench()
        bench.do(("unbox", "no"), ("box", "no", not_table()))
        bench.say("boxes")
        bench.begin()
        self.assertEqual(bench, or_bench())
        for value in any_values():
            self.assertIs(Bench() == value, False)
            self.assertIs(value == Bench(), False)

    def test_the_order_counts_for_equality(self):
        a, b = ("list", "a", [(0,)]), ("list", "b", [(0,)])
        for one, other in ((a, b), (("box", "a", yes_table()), ("box", "b", yes_table())),
                           (("program", "a", Program(Stock(), 0, [("never",)])),
                            ("program", "b", Program(Stock(), 0, [("never",)])))):
            self.assertNotEqual(Bench.replayed([one, other]), Bench.replayed([other, one]))
            self.assertEqual(Bench.replayed([one, other]), Bench.replayed([one, other]))
        self.assertNotEqual(Bench.replayed([a]), Bench.replayed([("list", "a", [(1,)])]))
        self.assertNotEqual(Bench.replayed([("box", "a", yes_table())]), Bench.replayed([("box", "a", not_table())]))
        see = [("see", "a", 0, 1)]
        self.assertNotEqual(Bench.replayed([a, *see]), Bench.replayed([a]))
        self.assertNotEqual(Bench.replayed([a, *see]), Bench.replayed([a, ("see", "a", 0, None)]))
        programs = [Program(Stock(), 1, [("never",)]), Program(Stock(), 0, [("never",)]),
                    Program(Stock(), 1, [("input", 0)])]
        for one in programs:
            for other in programs:
                self.assertIs(Bench.replayed([("program", "p", one)]) == Bench.replayed([("program", "p", other)]),
                              one == other)


class DeedsTest(RefusalTest):
    def test_wrong_deeds(self):
        bench = or_bench()
        for value in any_values():
            self.refused(bench, ("InvalidDeed", 0), value)
            # This is checked ahead of everything else, also of a deed ahead of it.
            self.refused(bench, ("InvalidDeed", 2), ("box", 5, 5), ("drop", "nothing"), value, None)
        for deed in (("box", "a"), ("box", "a", yes_table(), 1), ("unbox",), ("unbox", "or", 1), ("list", "a"),
                     ("unlist",), ("program", "a"), ("drop",), ("drop", "a", 1), ("see", "rows", 0),
                     ("see", "rows", 0, 1, 1), ("unsee", "rows"), ("unsee", "rows", 0, 1), ("Box", "a", yes_table()),
                     ("", "a"), (None, "a"), (["box"], "a", 1), ({}, 1), ["drop", "either"]):
            self.refused(bench, ("InvalidDeed", 0), deed)
            self.refused(bench, ("InvalidDeed", 1), ("unlist", "x"), deed)

    def test_new_names(self):
        bench = or_bench()
        puts = [("box", None), ("list", None), ("program", None)]
        for word, wrong in puts:
            for value in all_but(["or", "input"]):
                self.refused(bench, ("InvalidName", value), (word, value, wrong))
            for name in ("or", "no", "rows", "other", "either"):
                self.refused(bench, ("DuplicateName", name), (word, name, wrong))
            self.refused(bench, ("InvalidName", "abcdefghi"), (word, "abcdefghi", wrong))

    def test_tables(self):
        bench = or_bench()
        for value in any_values():
            if not isinstance(value, Table):
                self.refused(bench, ("InvalidTable",), ("box", "new", value))
        self.refused(bench, ("InvalidTable",), ("box", "new", or_table(3)))
        self.refused(Bench(signs=3), ("InvalidTable",), ("box", "new", or_table()))

    def test_five_boxes(self):
        bench = or_bench()
        bench.do(*[("box", name, yes_table()) for name in "abc"])
        self.assertEqual(len(bench), 5)
        self.refused(bench, ("TooMany", "boxes", 6), ("box", "d", yes_table()))
        self.refused(bench, ("InvalidTable",), ("box", "d", or_table(3)))
        # Too many boxes are told ahead of too many picks.
        self.refused(bench, ("TooMany", "boxes", 6), ("box", "d", layer_table(80)))
        bench.do(("unbox", "a"), ("box", "d", yes_table()))
        self.assertEqual(bench.present_stock().names(), ["or", "no", "b", "c", "d"])

    def test_picks_of_a_new_box(self):
        bench = Bench()
        bench.do(("list", "two", [(0,)] * 2), ("list", "four", [(0,)] * 4), ("list", "five", [(0,)] * 5))
        self.refused(bench, ("TooMany", "picks", 15 ** 4), ("box", "w", layer_table(14)))
        self.refused(bench, ("TooMany", "picks", 9 ** 5), ("box", "w", layer_table(8)))
        self.assertEqual(raised(bench.do, ("unlist", "four"), ("box", "w", layer_table(14))),
                         ("TooMany", "picks", 15 ** 5))
        bench.do(("box", "v", layer_table(7)), ("unlist", "five"), ("box", "w", layer_table(13)))
        self.assertEqual(bench.present_stock().names(), ["v", "w"])
        bench.do(("unlist", "four"), ("box", "x", layer_table(80)))
        self.assertEqual(len(bench), 3)

    def test_boxes_that_are_taken_off(self):
        bench = or_bench()
        for value in all_but(["or"]):
            self.refused(bench, ("UnknownName", value), ("unbox", value))
        for name in ("rows", "either", "new"):
            self.refused(bench, ("UnknownName", name), ("unbox", name))
        self.refused(bench, ("InUse", "or", "either"), ("unbox", "or"))
        # A line that is not needed counts, too, and the program that was put first.
        stock = bench.present_stock()
        bench.do(("program", "b", Program(stock, 1, [("input", 0), ("box", "no", 0), ("sign", 1)])),
                 ("program", "a", Program(stock, 1, [("input", 0), ("box", "no", 0)])))
        self.refused(bench, ("InUse", "no", "b"), ("unbox", "no"))
        bench.do(("drop", "b"))
        self.refused(bench, ("InUse", "no", "a"), ("unbox", "no"))
        bench.do(("drop", "a"), ("unbox", "no"))
        self.assertEqual(bench.present_stock().names(), ["or"])

    def test_boxes_that_seen_values_need(self):
        bench = or_bench()
        bench.do(("list", "more", THREE_ROWS), ("drop", "either"))
        bench.do(("see", "rows", 0, 1), ("see", "rows", 1, 1))
        # Without or the columns that answer 1 at the first two rows do so at the third, which is not seen yet.
        bench.do(("see", "more", 0, 1), ("see", "more", 1, 1), ("see", "more", 2, 0))
        self.refused(bench, ("Unfit", "more"), ("unbox", "or"))
        bench.do(("see", "rows", 2, None))
        self.refused(bench, ("Unfit", "rows"), ("unbox", "or"))
        bench.do(("program", "p", EITHER))
        self.refused(bench, ("InUse", "or", "p"), ("unbox", "or"))
        bench.do(("drop", "p"), ("unsee", "rows", 2), ("unsee", "more", 0), ("unbox", "or"))
        self.assertEqual([len(bench), bench.half_seen("more").seen(), bench.half_seen("rows").seen()],
                         [1, {1: 1, 2: 0}, {0: 1, 1: 1}])

    def test_lists(self):
        bench = or_bench()
        bench.do(("list", "a", [()]), ("list", "b", ((0, 1, None),) * 4))
        self.assertEqual(bench.list_names(), ["rows", "other", "a", "b"])
        self.refused(bench, ("TooMany", "lists", 5), ("list", "c", None))
        self.refused(bench, ("DuplicateName", "b"), ("list", "b", None))
        bench.do(("unlist", "rows"), ("list", "c", [(1,)]))
        self.assertEqual(bench.list_names(), ["other", "a", "b", "c"])
        for value in all_but(["or"]):
            self.refused(bench, ("UnknownName", value), ("unlist", value))
        for name in ("rows", "or", "either"):
            self.refused(bench, ("UnknownName", name), ("unlist", name))

    def test_rows_of_lists(self):
        bench = or_bench()
        for value in any_values():
            if not isinstance(value, (list, tuple)):
                self.refused(bench, ("InvalidRow", -1), ("list", "new", value))
        for rows, expected in (([], ("InvalidRow", -1)), ([()] * 8, ("TooMany", "rows", 8)),
                               ([(0,), (2,)], ("InvalidRow", 1)), ([(0,) * 9], ("TooMany", "inputs", 9)),
                               ([(0,), (0, 1)], ("InvalidRow", 1)), ([(True,)], ("InvalidRow", 0))):
            self.refused(bench, expected, ("list", "new", rows))
        wide = Bench.replayed([("box", "a", not_table()), ("box", "w", layer_table(14)), ("box", "x", layer_table(80))])
        self.refused(wide, ("TooMany", "picks", 15 ** 4), ("list", "new", [(0,)] * 4))
        self.refused(wide, ("TooMany", "picks", 81 ** 3), ("list", "new", [(0,)] * 3))
        self.refused(wide, ("InvalidRow", 3), ("list", "new", [(0,)] * 3 + [5]))

    def test_programs(self):
        bench = or_bench()
        for value in any_values():
            if not isinstance(value, Program):
                self.refused(bench, ("InvalidProgram",), ("program", "new", value))
        wrong = [
            Program(Stock(signs=3), 0, [("never",)]),
            Program(Stock(Box("or", and_table())), 0, [("never",), ("box", "or", 0, 0)]),
            Program(or_stock(), 0, [("box", "yes"), ("never",)]),
            Program(Stock(Box("x", or_table())), 0, [("never",), ("box", "x", 0, 0)]),
        ]
        for program in wrong:
            self.refused(bench, ("InvalidProgram",), ("program", "new", program))
        # Boxes of its stock that are in none of its lines do not matter.
        other = Stock(Box("or", or_table()), Box("no", or_table()), Box("z", and_table()))
        bench.do(("program", "a", Program(other, 2, EITHER.lines())), ("program", "b", EITHER),
                 ("program", "c", Program(Stock(), 8, [("never",)])))
        self.assertEqual(bench.program_names(), ["either", "a", "b", "c"])
        self.assertEqual([bench.named_program(name).stock for name in "abc"], [bench.present_stock()] * 3)
        self.refused(bench, ("TooMany", "programs", 5), ("program", "d", EITHER))
        self.refused(bench, ("InvalidProgram",), ("program", "d", wrong[1]))
        bench.do(("drop", "a"), ("program", "d", EITHER))
        self.assertEqual(bench.program_names(), ["either", "b", "c", "d"])
        for value in all_but(["or"]):
            self.refused(bench, ("UnknownName", value), ("drop", value))
        for name in ("rows", "or", "a"):
            self.refused(bench, ("UnknownName", name), ("drop", name))

    def test_seeing(self):
        bench = or_bench()
        for value in all_but(["or"]):
            self.refused(bench, ("UnknownName", value), ("see", value, None, "x"))
            self.refused(bench, ("UnknownName", value), ("unsee", value, None))
        for name in ("or", "either"):
            self.refused(bench, ("UnknownName", name), ("see", name, 0, 0))
            self.refused(bench, ("UnknownName", name), ("unsee", name, 0))
        for value in all_but([0, 1, 2]):
            self.refused(bench, ("InvalidNumber", value), ("see", "rows", value, "x"))
        for value in all_but([None, 0, 1]):
            self.refused(bench, ("InvalidValue", value), ("see", "rows", 0, value))
        for value in any_values():
            self.refused(bench, ("NotSeen", value), ("unsee", "rows", value))
        self.refused(bench, ("AlreadySeen", 1), ("see", "rows", 1, 0), ("see", "rows", 1, None))
        self.refused(bench, ("NotSeen", 1), ("see", "rows", 1, 0), ("unsee", "rows", 1), ("unsee", "rows", 1))
        self.refused(bench, ("Clash", (0, 1), 0, 1), ("see", "rows", 0, 1), ("see", "rows", 1, 0))
        self.refused(bench, ("Clash", (2,), 2, 0), ("see", "other", 2, 1), ("see", "other", 0, 0))
        self.refused(bench, ("Barred", 0, 1), ("see", "other", 0, None), ("see", "other", 2, 1))

    def test_each_deed_is_checked_behind_those_ahead_of_it(self):
        bench = Bench()
        bench.do(("box", "a", or_table()), ("list", "b", THREE_ROWS), ("see", "b", 0, 1), ("see", "b", 1, 1),
                 ("see", "b", 2, 0), ("unsee", "b", 2), ("unbox", "a"), ("box", "c", and_table()), ("unlist", "b"),
                 ("list", "a", [()]))
        self.assertEqual([bench.present_stock().names(), bench.list_names(), bench.history()], [["c"], ["a"], (1, 0)])
        self.refused(bench, ("UnknownName", "a"), ("unlist", "a"), ("unlist", "a"))
        self.refused(bench, ("DuplicateName", "x"), ("list", "x", [()]), ("box", "x", yes_table()))

    def test_a_wrong_deed_behind_right_ones(self):
        bench = or_bench()
        bench.do(("see", "rows", 0, 1))
        bench.undo()
        self.assertEqual(bench.history(), (2, 1))
        self.refused(bench, ("UnknownName", "x"), ("unbox", "no"), ("list", "l", [()]), ("see", "rows", 2, 0),
                     ("drop", "either"), ("unbox", "or"), ("drop", "x"))
        bench.redo()
        self.assertEqual(bench.half_seen("rows").seen(), {0: 1})

    def test_tried(self):
        bench = or_bench()
        before = look(bench)
        told = bench.tried(("unbox", "no"), ("list", "l", [(0,), (0,)]), ("unlist", "other"))
        self.assertEqual(told, (["or"], [("rows", 4), ("l", 3)]))
        self.assertIsInstance(told, tuple)
        self.assertEqual(bench.tried(), (["or", "no"], [("rows", 4), ("other", len(bench.list_sheet("other")))]))
        self.assertEqual(look(bench), before)
        self.assertEqual(Bench().tried(), ([], []))
        without = bench.tried(("drop", "either"), ("unbox", "or"))
        self.assertEqual(without[1][0], ("rows", 5))

    def test_three_signs(self):
        bench = Bench(signs=3)
        rows = [*THREE_ROWS, (2, 2)]
        bench.do(("box", "or", or_table(3)), ("list", "rows", rows), ("see", "rows", 3, 2))
        self.assertEqual([bench.half_seen("rows").seen(), bench.present_stock().signs], [{3: 2}, 3])
        self.assertEqual(bench.list_sheet("rows"), sheet_of(rows, or_stock(3)))
        self.assertNotEqual(bench.list_sheet("rows"), sheet_of(rows, Stock(signs=3)))
        self.refused(bench, ("InvalidProgram",), ("program", "p", EITHER))


class DrawnDeedsTest(unittest.TestCase):
    def test_all_or_none(self):
        chance = random.Random(36)
        refused = 0
        for at in range(30):
            bench = Bench(signs=2 + at % 2)
            for _ in range(60):
                deeds = [drawn_deed(chance, bench) for _ in range(chance.choice([0, 1, 1, 1, 2, 3]))]
                before, tried = look(bench), bench.twin()
                told = raised(tried.do, *deeds)
                self.assertEqual(raised(bench.tried, *deeds), told)
                self.assertEqual(raised(bench.do, *deeds), told)
                self.assertEqual(bench, tried)
                if told is not None:
                    self.assertEqual(look(bench), before)
                    refused += 1
                self.check_state(bench)
        self.assertGreater(refused, 100)

    def check_state(self, bench):
        """All sheets are those of the present stock, and all seen values agree."""
        stock = bench.present_stock()
        for name in bench.list_names():
            sheet, half = bench.list_sheet(name), bench.half_seen(name)
            self.assertEqual(sheet, sheet_of(sheet.rows(), stock))
            self.assertEqual([sheet.stock, half.sheet], [stock, sheet])
            self.assertGreater(half.number(), 0)
        for name in bench.program_names():
            self.assertEqual(bench.named_program(name).stock, stock)
        names = [*stock.names(), *bench.list_names(), *bench.program_names()]
        self.assertEqual(len(names), len(set(names)))
