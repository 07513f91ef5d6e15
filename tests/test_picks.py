import random
import unittest

from neverboxes.asking import asking_pairs
from neverboxes.boxes import Box
from neverboxes.picks import effect, every_pick, outcome, told_columns
from neverboxes.tables import Table
from tests.definitions import (
    THREE_ROWS, and_table, effect_by_definition, layer_table, lots_of, outcome_by_definition, picks_of, some_pairs,
)
from tests.samples import all_but, not_table, or_table, raised, raised_is, some_table, yes_table

OR = Box("or", or_table())
PAIRS = asking_pairs(THREE_ROWS, 2)
WHOLE = ((1, None), (None, 1), (0, 0))


def drawn_cases(many, most=3):
    """Tuples (count, pairs, lot, box) with few picks."""
    chance = random.Random(18)
    for at in range(many):
        count, signs = chance.randint(1, 4), 2 + at % 2
        pairs = some_pairs(chance, count, many=1 + at % 6)
        table = some_table(chance, chance.randrange(most + 1), signs, 3)
        box = Box("a", chance.choice([table, or_table(signs), and_table(signs)]))
        yield count, pairs, chance.choice(pairs)[0], box


class EveryPickTest(unittest.TestCase):
    def test_order(self):
        low, high, none = (None, 1), (1, None), (0, 0)
        self.assertEqual(list(every_pick((4,), OR)), [(low,), (none,), (high,)])
        self.assertEqual(list(every_pick(box=OR, lot=(0, 2)))[:5],
                         [(low, low), (low, none), (low, high), (none, low), (none, none)])
        self.assertEqual(len(list(every_pick((0, 1, 2), OR))), 27)

    def test_agrees_with_the_definition(self):
        for _, _, lot, box in drawn_cases(40):
            self.assertEqual(list(every_pick(lot, box)), picks_of(lot, box))

    def test_edges(self):
        self.assertEqual(list(every_pick((0, 1), Box("never", Table(2, [])))), [])
        self.assertEqual(list(every_pick((0, 1), Box("yes", yes_table()))), [((), ())])
        self.assertEqual(list(every_pick((0, 1), Box("one", Table(2, [((None, None), 1)])))),
                         [((None, None), (None, None))])
        self.assertEqual(len(list(every_pick((0, 1, 2, 3, 4, 5, 6), Box("a", layer_table(3))))), 3 ** 7)

    def test_it_is_a_generator_that_may_be_left(self):
        picks = every_pick((0, 1), OR)
        self.assertEqual(next(picks), ((None, 1), (None, 1)))
        self.assertEqual(next(iter(every_pick((0, 1), OR))), ((None, 1), (None, 1)))
        self.assertEqual(len(list(picks)), 8)


class ToldColumnsTest(unittest.TestCase):
    def test_examples(self):
        self.assertEqual(told_columns(3, (0, 1, 2), OR, WHOLE), [(1, None, 0), (None, 1, 0)])
        self.assertEqual(told_columns(3, (0, 1), OR, WHOLE[:2]), [(1, None, None), (None, 1, None)])
        self.assertEqual(told_columns(pick=((0, 0),), box=OR, lot=(2,), count=4), [(None, None, 0, None)] * 2)
        self.assertEqual(told_columns(2, (0,), Box("yes", yes_table()), ((),)), [])
        self.assertEqual(told_columns(1, (0,), Box("no", not_table(3)), ((1,),)), [(1,)])

    def test_told_lists_are_new(self):
        told_columns(3, (0,), OR, WHOLE[:1]).clear()
        self.assertEqual(len(told_columns(3, (0,), OR, WHOLE[:1])), 2)


class OutcomeTest(unittest.TestCase):
    def test_examples_of_the_document(self):
        self.assertEqual(outcome(3, PAIRS, (0, 1, 2), OR, WHOLE), (1, 1, 0))
        self.assertEqual(outcome(3, PAIRS, (0, 1), OR, WHOLE[:2]), (1, 1, None))

    def test_fillings_are_what_the_box_gets(self):
        pairs = [((0,), (0,)), ((0, 1), (0, 1, 2))]
        picked = ((1, None), (1, None))
        self.assertEqual(outcome(3, pairs, (0, 1), OR, picked), (1, 1, 1))
        self.assertEqual(outcome(pick=picked, box=OR, lot=(0, 1), pairs=[], count=3), (1, 1, None))

    def test_a_clash(self):
        pairs = [((0,), (0, 1))]
        self.assertIs(outcome(2, pairs, (0, 1), Box("no", not_table()), ((0,), (1,))), None)
        self.assertEqual(outcome(2, pairs, (0, 1), Box("no", not_table()), ((0,), (0,))), (1, 1))

    def test_boxes_without_inputs(self):
        self.assertEqual(outcome(3, PAIRS, (0,), Box("yes", yes_table()), ((),)), (1, 1, 1))

    def test_agrees_with_the_definition(self):
        clashes = 0
        for count, pairs, lot, box in drawn_cases(80, most=2):
            for pick in picks_of(lot, box):
                before = list(pairs)
                told = outcome(count, pairs, lot, box, pick)
                self.assertEqual(told, outcome_by_definition(count, pairs, lot, box, pick))
                self.assertEqual(outcome(count, tuple(pairs), lot, box, pick), told)
                self.assertEqual(pairs, before)
                clashes += told is None
        self.assertGreater(clashes, 10)


class EffectTest(unittest.TestCase):
    def test_examples_of_the_document(self):
        self.assertEqual(effect(3, PAIRS, (0, 1, 2), OR, WHOLE), ("strike", ()))
        self.assertEqual(effect(3, PAIRS, (0, 1), OR, WHOLE[:2]), ("cut", (0, 1)))
        self.assertEqual(effect(pick=WHOLE[:1], box=OR, lot=(0,), pairs=tuple(PAIRS), count=3), ("none", (0,)))

    def test_clashes_do_nothing(self):
        pairs = [((0,), (0, 1)), ((0, 1), (0, 1))]
        self.assertEqual(effect(2, pairs, (0, 1), Box("no", not_table()), ((0,), (1,))), ("none", (0, 1)))

    def test_agrees_with_the_definition(self):
        words = {"none": 0, "cut": 0, "strike": 0}
        for count, pairs, lot, box in drawn_cases(200, most=2):
            for pick in picks_of(lot, box):
                before = list(pairs)
                told = effect(count, pairs, lot, box, pick)
                self.assertEqual(told, effect_by_definition(count, pairs, lot, box, pick))
                self.assertEqual(pairs, before)
                words[told[0]] += 1
        self.assertGreater(min(words.values()), 10)

    def test_no_lots_of_the_pairs(self):
        for value in all_but([(0,), (1,)]):
            raised_is(self, raised(effect, 3, PAIRS, value, OR, ((0, 0),)), ("UnknownLot", value))
        for value in ((0, 2), (1, 2), (3,), (1, 0), (True,), (False,), (0, True), [0, 1], (0, 0)):
            told = raised(effect, 3, PAIRS, value, OR, WHOLE[:2])
            self.assertEqual(told, ("UnknownLot", value))
            self.assertIs(type(told[1]), type(value))
        self.assertEqual(raised(effect, 3, [], (0,), OR, WHOLE[:1]), ("UnknownLot", (0,)))

    def test_both_boxes_of_seven_rows(self):
        rows = [(1, None)] * 3 + [(None, 1)] * 3 + [(0, 0)]
        pairs = asking_pairs(rows, 2)
        pick = ((1, None),) * 3 + ((None, 1),) * 3 + ((0, 0),)
        self.assertEqual(effect(7, pairs, (0, 1, 2, 3, 4, 5, 6), OR, pick), ("strike", ()))
        self.assertEqual(effect(7, pairs, lots_of(7)[0], Box("and", and_table()), ((1, 1),)), ("none", (0, 1, 2)))
