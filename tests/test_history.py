import random
import unittest

from neverboxes.bench import Bench
from neverboxes.boxes import Stock
from neverboxes.programs import Program
from tests.definitions import THREE_ROWS
from tests.samples import any_values, not_table, or_table, raised, raised_is, yes_table
from tests.test_bench import drawn_deed, look, or_bench

BOXES = [("box", name, yes_table()) for name in "abcde"]


class Failure(Exception):
    """An error that only a trial of these tests raises."""


def failing(bench):
    bench.do(BOXES[0])
    raise Failure("as asked")


class HistoryTest(unittest.TestCase):
    def test_undo_and_redo(self):
        bench = Bench()
        self.assertEqual([raised(bench.undo), raised(bench.redo)], [("NothingLeft",)] * 2)
        bench.do(BOXES[0])
        bench.do(BOXES[1], BOXES[2])
        self.assertEqual([bench.history(), bench.present_stock().names()], [(2, 0), ["a", "b", "c"]])
        self.assertIs(bench.undo(), None)
        self.assertEqual([bench.history(), bench.present_stock().names(), bench.journal()], [(1, 1), ["a"], BOXES[:1]])
        bench.undo()
        self.assertEqual([bench.history(), bench.present_stock().names(), bench.journal()], [(0, 2), [], []])
        self.assertEqual(raised(bench.undo), ("NothingLeft",))
        self.assertIs(bench.redo(), None)
        bench.redo()
        self.assertEqual([bench.history(), bench.journal()], [(2, 0), BOXES[:3]])
        self.assertEqual(raised(bench.redo), ("NothingLeft",))
        self.assertEqual(bench.history(), (2, 0))

    def test_redo_behind_a_new_step(self):
        bench = Bench.replayed(BOXES[:3])
        bench.undo()
        bench.undo()
        bench.do()
        self.assertEqual(bench.history(), (1, 2))
        raised(bench.do, ("unbox", "x"))
        self.assertEqual(bench.history(), (1, 2))
        bench.do(BOXES[4])
        self.assertEqual([bench.history(), raised(bench.redo), bench.present_stock().names()],
                         [(2, 0), ("NothingLeft",), ["a", "e"]])

    def test_a_call_without_deeds_is_no_step(self):
        bench = Bench()
        self.assertIs(bench.do(), None)
        self.assertEqual([bench.history(), bench.journal()], [(0, 0), []])

    def test_a_step_that_changes_nothing_is_a_step(self):
        bench = Bench()
        bench.do(("list", "l", [(0,)]), ("see", "l", 0, 1))
        bench.do(("see", "l", 0, 1))
        self.assertEqual([bench.history(), len(bench.journal())], [(2, 0), 3])

    def test_long_histories(self):
        bench = Bench()
        bench.do(("list", "l", THREE_ROWS))
        for _ in range(150):
            bench.do(("see", "l", 0, 1))
            bench.do(("unsee", "l", 0))
        self.assertEqual([bench.history(), len(bench.journal())], [(301, 0), 301])
        for _ in range(300):
            bench.undo()
        self.assertEqual([bench.history(), bench.half_seen("l").seen()], [(1, 300), {}])
        for _ in range(299):
            bench.redo()
        self.assertEqual([bench.history(), bench.half_seen("l").seen()], [(300, 1), {0: 1}])
        self.assertEqual(Bench.replayed(bench.journal()), bench)


class DraftTest(unittest.TestCase):
    def test_kept(self):
        bench = Bench.replayed(BOXES[:1])
        self.assertIs(bench.begin(), None)
        self.assertEqual([bench.busy, bench.history()], [True, (1, 0)])
        bench.do(BOXES[1])
        bench.do(BOXES[2], ("unbox", "a"))
        self.assertEqual([bench.history(), bench.present_stock().names()], [(1, 0), ["b", "c"]])
        self.assertEqual(bench.journal(), [*BOXES[:3], ("unbox", "a")])
        self.assertIs(bench.keep(), None)
        self.assertEqual([bench.busy, bench.history(), bench.journal()], [False, (2, 0), [*BOXES[:3], ("unbox", "a")]])
        bench.undo()
        self.assertEqual([bench.present_stock().names(), bench.journal()], [["a"], BOXES[:1]])
        bench.redo()
        self.assertEqual(bench.present_stock().names(), ["b", "c"])

    def test_left(self):
        bench = Bench.replayed(BOXES[:2])
        bench.undo()
        before = look(bench)
        bench.begin()
        bench.do(BOXES[3])
        self.assertEqual([bench.history(), bench.journal()], [(1, 1), [BOXES[0], BOXES[3]]])
        self.assertIs(bench.leave(), None)
        self.assertEqual(look(bench), before)
        bench.redo()
        self.assertEqual(bench.present_stock().names(), ["a", "b"])

    def test_without_deeds(self):
        bench = Bench.replayed(BOXES[:2])
        bench.undo()
        before = look(bench)
        for end in (bench.keep, bench.leave):
            bench.begin()
            bench.do()
            end()
            self.assertEqual(look(bench), before)
        bench.redo()
        self.assertEqual(bench.history(), (2, 0))

    def test_kept_with_deeds_that_take_each_other_back(self):
        bench = Bench.replayed(BOXES[:2])
        bench.undo()
        bench.begin()
        bench.do(BOXES[2])
        bench.do(("unbox", "c"))
        bench.keep()
        self.assertEqual([bench.history(), bench.present_stock().names()], [(2, 0), ["a"]])

    def test_refused(self):
        bench = Bench.replayed(BOXES[:2])
        bench.undo()
        self.assertEqual([raised(bench.keep), raised(bench.leave)], [("NoDraft",)] * 2)
        bench.begin()
        bench.do(BOXES[2])
        before = look(bench)
        for call in (bench.begin, bench.undo, bench.redo, lambda: bench.trial(lambda told: True)):
            self.assertEqual(raised(call), ("InDraft",))
        self.assertEqual(raised(bench.do, BOXES[3], ("unbox", "x")), ("UnknownName", "x"))
        self.assertEqual(look(bench), before)
        bench.keep()
        self.assertEqual([raised(bench.keep), raised(bench.leave)], [("NoDraft",)] * 2)
        # A draft that was kept may be undone, and another one begun.
        bench.begin()
        bench.leave()
        bench.undo()
        self.assertEqual(bench.history(), (1, 1))
        # That there is nothing to undo is told behind the draft.
        fresh = Bench()
        fresh.begin()
        self.assertEqual([raised(fresh.undo), raised(fresh.redo)], [("InDraft",)] * 2)


class TrialTest(unittest.TestCase):
    def test_kept(self):
        bench = Bench.replayed(BOXES[:1])
        told = []

        def function(given):
            told.append([given is bench, given.busy, given.history()])
            given.do(BOXES[1])
            given.do(BOXES[2])
            told.append(given.journal())
            return True

        self.assertIs(bench.trial(function=function), True)
        self.assertEqual(told, [[True, True, (1, 0)], BOXES[:3]])
        self.assertEqual([bench.busy, bench.history(), bench.journal()], [False, (2, 0), BOXES[:3]])
        bench.undo()
        self.assertEqual(bench.present_stock().names(), ["a"])

    def test_left(self):
        for value in [value for value in any_values() if value is not True]:
            bench = Bench.replayed(BOXES[:2])
            bench.undo()
            before = look(bench)

            def function(given, value=value):
                given.do(BOXES[2])
                return value

            self.assertIs(bench.trial(function), False)
            self.assertEqual(look(bench), before)
            bench.redo()
            self.assertEqual(bench.history(), (2, 0))

    def test_that_returns_nothing(self):
        bench = Bench()
        self.assertIs(bench.trial(lambda given: given.do(BOXES[0])), False)
        self.assertEqual([bench.history(), len(bench)], [(0, 0), 0])

    def test_without_deeds(self):
        bench = Bench.replayed(BOXES[:2])
        bench.undo()
        before = look(bench)
        self.assertIs(bench.trial(lambda given: True), True)
        self.assertEqual(look(bench), before)
        self.assertIs(bench.trial(lambda given: None), False)
        self.assertEqual(look(bench), before)

    def test_errors_go_on(self):
        bench = Bench.replayed(BOXES[1:3])
        bench.undo()
        before = look(bench)
        with self.assertRaises(Failure):
            bench.trial(failing)
        self.assertEqual(look(bench), before)
        # An error of a deed goes on, too, unless the function catches it.
        raised_is(self, raised(bench.trial, lambda given: given.do(("drop", "x"))), ("UnknownName", "x"))
        self.assertEqual(look(bench), before)

        def catching(given):
            given.do(BOXES[0])
            self.assertEqual(raised(given.do, BOXES[4], ("drop", "x")), ("UnknownName", "x"))
            return True

        self.assertIs(bench.trial(catching), True)
        self.assertEqual([bench.present_stock().names(), bench.history()], [["b", "a"], (2, 0)])

    def test_what_is_refused_within(self):
        bench = Bench.replayed(BOXES[:2])
        bench.undo()
        told = []

        def function(given):
            for call in (given.begin, given.undo, given.redo, given.twin, lambda: given.trial(failing)):
                told.append(raised(call))
            for call in (given.keep, given.leave):
                told.append(raised(call))
            given.do(BOXES[3])
            told.append([given.say("undo"), given.say("redo"), given.say("boxes"), given.tried(BOXES[4])[0]])
            return True

        self.assertIs(bench.trial(function), True)
        self.assertEqual(told, [("InDraft",)] * 5 + [("NoDraft",)] * 2
                         + [["error InDraft", "error InDraft", "a d", ["a", "d", "e"]]])
        self.assertEqual([bench.present_stock().names(), bench.history(), bench.busy], [["a", "d"], (2, 0), False])
        self.assertEqual(len(bench.log()), 3)

    def test_behind_a_trial_all_is_allowed_again(self):
        for function in (lambda given: True, lambda given: None, failing):
            bench = Bench.replayed(BOXES[1:2])
            raised_kind = None
            try:
                bench.trial(function)
            except Failure:
                raised_kind = Failure
            self.assertIs(raised_kind, Failure if function is failing else None)
            bench.begin()
            bench.do(BOXES[2])
            bench.twin().leave()
            bench.leave()
            bench.undo()
            bench.redo()
            self.assertEqual([bench.history(), bench.busy], [(1, 0), False])

    def test_the_log_stays(self):
        bench = Bench()

        def function(given):
            given.do(BOXES[0])
            given.say("boxes")

        bench.trial(function)
        bench.begin()
        bench.do(BOXES[1])
        bench("boxes")
        bench.leave()
        self.assertEqual([bench.log(), len(bench)], [[("boxes", "a"), ("boxes", "b")], 0])

    def test_refused_in_a_draft(self):
        bench = Bench()
        bench.begin()
        called = []
        self.assertEqual(raised(bench.trial, called.append), ("InDraft",))
        self.assertEqual([called, bench.busy], [[], True])


class JournalTest(unittest.TestCase):
    def test_replayed(self):
        bench = or_bench()
        bench.do(("see", "rows", 2, 0))
        bench.begin()
        bench.do(("unlist", "other"))
        again = Bench.replayed(deeds=bench.journal(), signs=2)
        self.assertEqual(again, bench)
        self.assertEqual([again.busy, again.history(), again.log()], [False, (len(bench.journal()), 0), []])
        self.assertEqual(again.journal(), bench.journal())
        self.assertEqual(Bench.replayed(tuple(bench.journal())), bench)
        self.assertEqual([Bench.replayed([]), Bench.replayed([], signs=3)], [Bench(), Bench(signs=3)])

    def test_the_rows_in_a_deed_list_are_a_list(self):
        bench = Bench()
        bench.do(("list", "a", ((0,), (1,))), ("list", "b", [(0,)]))
        bench.begin()
        bench.do(("list", "c", ((),)))
        self.assertEqual(bench.journal(), [("list", "a", [(0,), (1,)]), ("list", "b", [(0,)]), ("list", "c", [()])])
        for deed in bench.journal():
            self.assertEqual([type(deed), type(deed[2])], [tuple, list])

    def test_errors(self):
        for value in any_values():
            raised_is(self, raised(Bench.replayed, [BOXES[0], value]), ("InvalidDeed", 0))
        # Each item is a call of its own, so what is wrong ahead counts first.
        self.assertEqual(raised(Bench.replayed, [BOXES[0], BOXES[0], None]), ("DuplicateName", "a"))
        self.assertEqual(raised(Bench.replayed, [None], signs=4), ("InvalidSigns", 4))
        self.assertEqual(raised(Bench.replayed, BOXES[:1], signs=3), ("InvalidTable",))

    def test_undone_steps_are_not_in_it(self):
        bench = Bench.replayed(BOXES[:3])
        bench.undo()
        self.assertEqual(bench.journal(), BOXES[:2])
        bench.do(BOXES[4])
        self.assertEqual(bench.journal(), [*BOXES[:2], BOXES[4]])


class TwinTest(unittest.TestCase):
    def test_independent(self):
        bench = or_bench()
        bench.do(("see", "rows", 0, 1))
        bench.undo()
        bench.say("boxes")
        twin = bench.twin()
        self.assertEqual(look(twin), look(bench))
        self.assertEqual(twin, bench)
        twin.redo()
        twin.say("lists")
        self.assertEqual([bench.history(), bench.log()], [(2, 1), [("boxes", "or no")]])
        self.assertEqual([twin.history(), twin.half_seen("rows").seen()], [(3, 0), {0: 1}])
        bench.do(("unbox", "no"))
        bench.undo()
        bench.undo()
        self.assertEqual([twin.history(), len(twin), len(bench)], [(3, 0), 2, 1])

    def test_within_a_draft(self):
        bench = Bench.replayed(BOXES[:2])
        bench.begin()
        bench.do(BOXES[2])
        twin = bench.twin()
        self.assertEqual(look(twin), look(bench))
        twin.do(BOXES[3])
        self.assertEqual([len(twin), len(bench), bench.journal()], [4, 3, BOXES[:3]])
        twin.keep()
        bench.leave()
        self.assertEqual([len(twin), twin.history(), len(bench), bench.history()], [4, (3, 0), 2, (2, 0)])
        bench.begin()
        other = bench.twin()
        other.do(BOXES[4])
        other.leave()
        bench.keep()
        self.assertEqual([other, other.history(), bench.history()], [bench, (2, 0), (2, 0)])


class DrawnHistoriesTest(unittest.TestCase):
    def test_steps(self):
        """Compares a bench with a plain list of steps, of which some are done and some are undone."""
        chance = random.Random(37)
        for at in range(25):
            bench, model = Bench(signs=2 + at % 2), Model(2 + at % 2)
            for _ in range(60):
                word = chance.choice(["do", "do", "do", "do", "undo", "redo", "begin", "keep", "leave", "trial"])
                getattr(self, word + "_both")(chance, bench, model)
                self.assertEqual(bench.history(), (len(model.done), len(model.undone)))
                self.assertEqual([bench.journal(), bench.busy], [model.journal(), model.draft is not None])
                self.assertEqual(bench, Bench.replayed(model.journal(), signs=bench.signs))

    def do_both(self, chance, bench, model):
        deeds = [drawn_deed(chance, bench) for _ in range(chance.choice([0, 1, 1, 2]))]
        if raised(bench.do, *deeds) is None:
            model.add(deeds)

    def undo_both(self, _, bench, model):
        expected = "InDraft" if model.draft is not None else None if model.done else "NothingLeft"
        self.assertEqual(raised(bench.undo), expected and (expected,))
        if expected is None:
            model.undone.append(model.done.pop())

    def redo_both(self, _, bench, model):
        expected = "InDraft" if model.draft is not None else None if model.undone else "NothingLeft"
        self.assertEqual(raised(bench.redo), expected and (expected,))
        if expected is None:
            model.done.append(model.undone.pop())

    def begin_both(self, _, bench, model):
        self.assertEqual(raised(bench.begin), ("InDraft",) if model.draft is not None else None)
        if model.draft is None:
            model.draft = []

    def keep_both(self, _, bench, model):
        self.assertEqual(raised(bench.keep), ("NoDraft",) if model.draft is None else None)
        if model.draft is not None:
            deeds, model.draft = model.draft, None
            model.add(deeds)

    def leave_both(self, _, bench, model):
        self.assertEqual(raised(bench.leave), ("NoDraft",) if model.draft is None else None)
        model.draft = None

    def trial_both(self, chance, bench, model):
        kept = chance.choice([True, True, False, 1, None])
        done = []

        def function(given):
            for _ in range(2):
                deed = drawn_deed(chance, given)
                if raised(given.do, deed) is None:
                    done.append(deed)
            return kept

        if model.draft is not None:
            self.assertEqual(raised(bench.trial, function), ("InDraft",))
        else:
            self.assertIs(bench.trial(function), kept is True)
            model.add(done if kept is True else [])


class Model:
    """The steps of a bench as lists of deeds."""

    def __init__(self, signs):
        self.signs, self.done, self.undone, self.draft = signs, [], [], None

    def add(self, deeds):
        if self.draft is not None:
            self.draft.extend(deeds)
        elif deeds:
            self.done.append(deeds)
            self.undone = []

    def journal(self):
        return [deed for step in self.done for deed in step] + (self.draft or [])


class PlainTest(unittest.TestCase):
    def test_programs_of_the_journal(self):
        bench = Bench()
        program = Program(Stock(), 1, [("input", 0)])
        bench.do(("box", "no", not_table()), ("box", "or", or_table()), ("program", "p", program))
        self.assertEqual(bench.journal()[2], ("program", "p", program))
        self.assertEqual(Bench.replayed(bench.journal()), bench)
