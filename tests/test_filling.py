import random
import unittest

from neverboxes.filling import fill_steps, filled
from tests.definitions import least_keeping, lots_of, some_column, some_pairs, steps_by_definition
from tests.samples import raised, raised_is

CHAIN = [((0,), (0, 1)), ((1,), (1, 2)), ((0, 2), (0, 2, 3))]


class FillingTest(unittest.TestCase):
    def test_steps_in_order(self):
        self.assertEqual(filled(CHAIN, (1, None, None, None)), (1, 1, 1, 1))
        self.assertEqual(fill_steps(CHAIN, (1, None, None, None)), [((0,), (1,)), ((1,), (2,)), ((0, 2), (3,))])
        self.assertEqual(filled(column=(None, 0, None, None), pairs=CHAIN), (None, 0, 0, None))
        self.assertEqual(fill_steps(column=(None, 0, None, None), pairs=CHAIN), [((1,), (2,))])

    def test_each_step_takes_the_first_pair(self):
        pairs = [((0,), (0, 1)), ((1,), (1, 2)), ((2,), (0, 2))]
        self.assertEqual(fill_steps(pairs, (None, None, 0)), [((2,), (0,)), ((0,), (1,))])
        self.assertEqual(fill_steps(pairs, (None, 0, None)), [((1,), (2,)), ((2,), (0,))])

    def test_a_step_may_fill_several_rows(self):
        self.assertEqual(fill_steps([((1,), (0, 1, 2))], (None, 2, None)), [((1,), (0, 2))])
        self.assertEqual(fill_steps([((1,), (0, 1, 2))], (None, 2, 2)), [((1,), (0,))])

    def test_nothing_to_fill(self):
        for pairs in ([], (), CHAIN):
            self.assertEqual(filled(pairs, (None,) * 4), (None,) * 4)
            self.assertEqual(fill_steps(pairs, (None,) * 4), [])
        self.assertEqual(filled([], (0, 1, None)), (0, 1, None))
        self.assertEqual(fill_steps([], (0, 1, None)), [])
        self.assertEqual(filled(CHAIN, (0, 0, 0, 0)), (0, 0, 0, 0))

    def test_clashes(self):
        for call in (filled, fill_steps):
            self.assertEqual(raised(call, CHAIN, (1, 0, None, None)), ("Clash", (0,), 0, 1))
            self.assertEqual(raised(call, CHAIN, (1, None, 0, None)), ("Clash", (1,), 1, 2))
            self.assertEqual(raised(call, CHAIN, (1, None, None, 0)), ("Clash", (0, 2), 0, 3))
            self.assertEqual(raised(call, [((1, 2), (0, 1, 2))], (0, 1, 1)), ("Clash", (1, 2), 1, 0))
            self.assertEqual(raised(call, [((0, 1), (0, 1, 2))], (0, 1, 1)), ("Clash", (0, 1), 0, 1))
            self.assertEqual(raised(call, [((0, 1), (0, 1))], (0, 1)), ("Clash", (0, 1), 0, 1))

    def test_agrees_with_the_definition(self):
        chance = random.Random(17)
        clashes = 0
        for at in range(1500):
            count, signs = chance.randint(1, 5), 2 + at % 2
            pairs, column = some_pairs(chance, count), some_column(chance, count, signs)
            before = list(pairs)
            told = steps_by_definition(pairs, column)
            least = least_keeping(column, pairs, signs)
            if len(told) == 3:
                clashes += 1
                self.assertIs(least, None)
                raised_is(self, raised(filled, pairs, column), ("Clash", *told))
                raised_is(self, raised(fill_steps, pairs, column), ("Clash", *told))
            else:
                self.assertEqual(filled(pairs, column), least)
                self.assertEqual((filled(tuple(pairs), column), fill_steps(tuple(pairs), column)), told)
            self.assertEqual(pairs, before)
        self.assertGreater(clashes, 100)

    def test_seven_rows(self):
        pairs = [((row,), (row, row + 1)) for row in range(6)]
        self.assertEqual(filled(pairs, (2,) + (None,) * 6), (2,) * 7)
        self.assertEqual(fill_steps(pairs, (2,) + (None,) * 6), [((row,), (row + 1,)) for row in range(6)])
        whole = [(lot, tuple(range(7))) for lot in lots_of(7)]
        self.assertEqual(fill_steps(whole, (None,) * 6 + (0,)), [((6,), (0, 1, 2, 3, 4, 5))])

    def test_told_lists_are_new(self):
        fill_steps(CHAIN, (1, None, None, None)).clear()
        self.assertEqual(len(fill_steps(CHAIN, (1, None, None, None))), 3)
        self.assertIsInstance(filled(CHAIN, (1, None, None, None)), tuple)
