import random
import unittest
from itertools import product

from neverboxes.asks import needs_no_box, stuck_rows
from neverboxes.boxes import Box, Stock
from neverboxes.everything import at_once_table
from neverboxes.programs import Program
from neverboxes.tables import Table
from neverboxes.trees import (
    TreeWalk, best_tree, every_tree, is_tree, number_of_trees, tree_depth, tree_program, tree_value,
)
from tests.definitions import gustave_table
from tests.samples import all_but, any_values, by_row, is_under, not_table, or_table, raised, raised_is, rows_of
from tests.samples import some_table, yes_table
from tests.test_asks import ASKED, askable_by_definition

KNOT = (0, ((1, (0, 1)), 1))


def parity(inputs, signs):
    """A table that needs all its inputs."""
    return Table(inputs, [(row, sum(row) % signs) for row in rows_of(inputs, signs) if None not in row], signs=signs)


def some_tree(chance, inputs, signs, knots):
    if knots == 0 or inputs == 0 or chance.random() < 0.2:
        return chance.choice([None, *range(signs)])
    return (chance.randrange(inputs), tuple(some_tree(chance, inputs, signs, knots - 1) for _ in range(signs)))


def value_of(tree, row):
    if not isinstance(tree, tuple):
        return tree
    sign = row[tree[0]]
    return None if sign is None else value_of(tree[1][sign], row)


def depth_of(tree):
    return 1 + max(depth_of(branch) for branch in tree[1]) if isinstance(tree, tuple) else 0


def thrifty_by_definition(values, signs, row):
    """The list of all thrifty trees at a row, in the tree order."""
    if values[row] is not None:
        return [values[row]]
    if all(values[other] is None for other in values if is_under(row, other)):
        return [None]
    found = []
    for at in askable_by_definition(values, row):
        parts = [thrifty_by_definition(values, signs, (*row[:at], sign, *row[at + 1:])) for sign in range(signs)]
        found.extend((at, branches) for branches in product(*parts))
    return found


def best_by_definition(values, signs, row):
    trees = thrifty_by_definition(values, signs, row)
    least = min(depth_of(tree) for tree in trees)
    first = next(tree for tree in trees if depth_of(tree) == least)
    if not isinstance(first, tuple):
        return first
    at = first[0]
    return (at, tuple(best_by_definition(values, signs, (*row[:at], sign, *row[at + 1:])) for sign in range(signs)))


def tables_by_trees(seed, many):
    """Tables that need no box, drawn as those of trees."""
    chance = random.Random(seed)
    for at in range(many):
        signs = 2 + at % 2
        inputs = chance.randrange(5 if signs == 2 else 4)
        tree = some_tree(chance, inputs, signs, 3)
        yield tree, Table.of_values(inputs, [value_of(tree, row) for row in rows_of(inputs, signs)], signs=signs)


class TreeTest(unittest.TestCase):
    def test_trees(self):
        for value in (None, 0, 1, KNOT, (1, (None, None)), (1, (KNOT, KNOT))):
            self.assertIs(is_tree(value, 2, 2), True)
        for value in (2, -1, True, False, (), (0,), (0, 1), (0, (0,)), (0, (0, 1, 1)), (0, [0, 1]), [0, (0, 1)],
                      (2, (0, 1)), (-1, (0, 1)), (True, (0, 1)), (0, (0, True)), (0, (0, 2)), (0, (0, 1), 1),
                      ((0,), (0, 1)), (0, ((2, (0, 1)), 1)), (0, ((0, (0, 5)), 1)), (None, (0, 1))):
            self.assertIs(is_tree(value, 2, 2), False, value)
        self.assertIs(is_tree(signs=3, inputs=1, value=(0, (0, 2, None))), True)
        self.assertIs(is_tree((0, (0, 1)), 1, 3), False)
        self.assertIs(is_tree((0, (0, 1)), 0, 2), False)
        for value in all_but([None, 0, 1]):
            self.assertIs(is_tree(value, 8, 2), False, repr(value))

    def test_six_knots_on_a_path(self):
        tree = 1
        for at in range(6):
            tree = (at, (tree, None, tree))
        self.assertIs(is_tree(tree, 6, 3), True)
        self.assertEqual([tree_depth(tree), tree_value(tree, (0, 2, 0, 2, 0, 2))], [6, 1])
        self.assertEqual([tree_value(tree, (0, 0, 0, 0, 0, 1)), tree_value(tree, (None, 0, 0, 0, 0, 0))], [None, None])

    def test_values_and_depths(self):
        self.assertEqual([tree_depth(tree) for tree in (None, 0, 1, KNOT, (0, (1, 1)))], [0, 0, 0, 2, 1])
        self.assertEqual(tree_depth(tree=(0, (1, KNOT))), 3)
        self.assertEqual([tree_value(KNOT, row) for row in rows_of(2, 2)], ASKED.all_values())
        self.assertEqual([tree_value(row=(), tree=tree) for tree in (None, 0, 1)], [None, 0, 1])
        chance = random.Random(32)
        for _ in range(60):
            signs, inputs = chance.choice([2, 3]), chance.randrange(4)
            tree = some_tree(chance, inputs, signs, 5)
            self.assertIs(is_tree(tree, inputs, signs), True)
            self.assertEqual(tree_depth(tree), depth_of(tree))
            for row in rows_of(inputs, signs):
                self.assertEqual(tree_value(tree, row), value_of(tree, row))


class ThriftyTest(unittest.TestCase):
    def test_example_of_the_document(self):
        self.assertEqual([best_tree(ASKED), number_of_trees(ASKED), list(every_tree(ASKED))], [KNOT, 1, [KNOT]])

    def test_trees_without_knots(self):
        for table, expected in ((Table(3, []), None), (Table(0, []), None), (yes_table(), 1),
                                (Table(0, [((), 2)], signs=3), 2), (Table(5, [((None,) * 5, 0)]), 0),
                                (Table(4, [], signs=3), None)):
            self.assertEqual(best_tree(table=table), expected)
            self.assertEqual(number_of_trees(table=table), 1)
            self.assertEqual(list(every_tree(table=table)), [expected])

    def test_agrees_with_the_definition(self):
        for tree, table in tables_by_trees(32, 80):
            values = by_row(table)
            trees = thrifty_by_definition(values, table.signs, (None,) * table.inputs)
            self.assertEqual(number_of_trees(table), len(trees))
            self.assertEqual(list(every_tree(table)), trees)
            best = best_by_definition(values, table.signs, (None,) * table.inputs)
            self.assertEqual(best_tree(table), best)
            self.assertEqual(tree_depth(best), min(depth_of(other) for other in trees))
            self.assertLessEqual(tree_depth(best), depth_of(tree))
            self.assertIs(needs_no_box(table), True)
            for other in trees[:20]:
                self.assertIs(is_tree(other, table.inputs, table.signs), True)
                self.assertEqual([tree_value(other, row) for row in values], table.all_values())

    def test_two_inputs_that_both_are_needed(self):
        table = parity(2, 2)
        self.assertEqual(list(every_tree(table)), [(0, ((1, (0, 1)), (1, (1, 0)))), (1, ((0, (0, 1)), (0, (1, 0))))])
        self.assertEqual([number_of_trees(table), best_tree(table)], [2, (0, ((1, (0, 1)), (1, (1, 0))))])

    def test_a_tree_that_does_not_begin_with_the_first_input(self):
        # The input 2 tells which of the others counts.
        table = Table(3, [((0, None, 0), 0), ((1, None, 0), 1), ((None, 0, 1), 0), ((None, 1, 1), 1)])
        self.assertEqual(best_tree(table), (2, ((0, (0, 1)), (1, (0, 1)))))
        self.assertEqual(number_of_trees(table), 1)

    def test_one_input_to_ask_at_first_and_two_later(self):
        table = Table(3, [((1, None, None), 1), ((0, 0, 0), 0), ((0, 0, 1), 1), ((0, 1, 0), 1), ((0, 1, 1), 0)])
        trees = list(every_tree(table))
        self.assertEqual([tree[0] for tree in trees], [0, 0])
        self.assertEqual([tree[1][0][0] for tree in trees], [1, 2])
        self.assertEqual([number_of_trees(table), best_tree(table)], [2, trees[0]])

    def test_large_tables(self):
        for inputs, signs, many in ((5, 2, 1658880), (4, 3, 55296), (4, 2, 576), (3, 3, 24)):
            table = parity(inputs, signs)
            self.assertEqual(number_of_trees(table), many)
            best = best_tree(table)
            self.assertEqual(tree_depth(best), inputs)
            self.assertEqual(next(every_tree(table)), best)
            self.assertEqual([tree_value(best, row) for row in rows_of(inputs, signs)], table.all_values())
            if many < 1000:
                trees = list(every_tree(table))
                self.assertEqual(trees, sorted(set(trees)))
                self.assertEqual(len(trees), many)

    def test_stuck(self):
        for table in (or_table(), gustave_table(), or_table(3), at_once_table(2)):
            expected = ("Stuck", stuck_rows(table)[0])
            for call in (best_tree, number_of_trees, lambda told: next(every_tree(told))):
                self.assertEqual(raised(call, table), expected)
            # A generator raises its errors when its first item is requested.
            every_tree(table)
        # The first stuck row need not be the one in which all inputs hang.
        table = Table(3, [((0, None, 1), 1), ((0, 1, None), 1), ((0, 0, 0), 0), ((1, None, None), 0)])
        self.assertEqual(raised(best_tree, table), ("Stuck", (0, None, None)))

    def test_a_generator_that_is_left(self):
        table = parity(3, 2)
        trees = every_tree(table)
        first = next(trees)
        other = every_tree(table)
        self.assertEqual(next(other), first)
        del trees
        self.assertEqual([number_of_trees(table), len(list(every_tree(table)))], [12, 12])


class ProgramsTest(unittest.TestCase):
    def check(self, tree, inputs, stock):
        program = tree_program(tree, inputs, stock)
        self.assertIsInstance(program, Program)
        self.assertEqual([program.stock, program.inputs, program.used], [stock, inputs, []])
        self.assertLessEqual({line[0] for line in program.lines()}, {"input", "sign", "never", "ask"})
        rows = rows_of(inputs, stock.signs)
        for row in rows if len(rows) < 300 else random.Random(1).sample(rows, 100):
            self.assertEqual(program(row), value_of(tree, row))
        self.assertEqual(program, tree_program(stock=stock, inputs=inputs, tree=tree))

    def test_programs(self):
        stock = Stock(Box("or", or_table()))
        for tree in (None, 0, 1, KNOT, (1, (KNOT, None))):
            for inputs in (2, 3, 8):
                self.check(tree, inputs, stock)
        self.check(None, 0, Stock(signs=3))
        chance = random.Random(322)
        for _ in range(60):
            signs, inputs = chance.choice([2, 3]), chance.randrange(6)
            self.check(some_tree(chance, inputs, signs, 6), inputs, Stock(signs=signs))

    def test_programs_with_many_lines(self):
        tree = some_full_tree(random.Random(6), 6)
        self.check(tree, 6, Stock(signs=3))
        self.assertGreater(len(tree_program(tree, 6, Stock(signs=3))), 200)

    def test_errors(self):
        for value in all_but([0, 1, 2, 3, 4, 8]):
            raised_is(self, raised(tree_program, "x", value, Stock()), ("InvalidInputs", value))
        for value in all_but([None, 0, 1]):
            self.assertEqual(raised(tree_program, value, 2, Stock()), ("InvalidTree",))
        for value in ((2, (0, 1)), (0, (0, 1, 1)), 2, (0, (2, 0))):
            self.assertEqual(raised(tree_program, value, 2, Stock()), ("InvalidTree",))
        self.assertEqual(raised(tree_program, (0, (0, 1)), 1, Stock(signs=3)), ("InvalidTree",))
        self.assertEqual(raised(tree_program, 5, 9, Stock()), ("InvalidInputs", 9))


def some_full_tree(chance, knots):
    if knots == 0:
        return chance.choice([None, 0, 1, 2])
    return (chance.randrange(6), tuple(some_full_tree(chance, knots - 1) for _ in range(3)))


class TreeWalkTest(unittest.TestCase):
    def look(self, walk):
        return [walk.asked, walk.ended, walk.answer, walk.told()]

    def test_to_a_sign(self):
        walk = TreeWalk(tree=KNOT)
        self.assertEqual(self.look(walk), [0, False, None, []])
        self.assertIs(walk.tell(0), None)
        self.assertEqual(self.look(walk), [1, False, None, [(0, 0)]])
        walk.tell(value=1)
        self.assertEqual(self.look(walk), [None, True, 1, [(0, 0), (1, 1)]])
        self.assertEqual([raised(walk.tell, value) for value in (0, None, 5)], [("Ended",)] * 3)

    def test_told_that_an_input_hangs(self):
        walk = TreeWalk(KNOT)
        walk.tell(0)
        walk.tell(None)
        self.assertEqual(self.look(walk), [None, True, None, [(0, 0), (1, None)]])
        self.assertEqual(raised(walk.tell, 1), ("Ended",))
        walk.undo()
        self.assertEqual(self.look(walk), [1, False, None, [(0, 0)]])
        walk.tell(0)
        self.assertEqual(self.look(walk), [None, True, 0, [(0, 0), (1, 0)]])
        walk = TreeWalk(KNOT)
        walk.tell(None)
        self.assertEqual(self.look(walk), [None, True, None, [(0, None)]])

    def test_undo(self):
        walk = TreeWalk(KNOT)
        self.assertEqual(raised(walk.undo), ("NothingLeft",))
        walk.tell(1)
        self.assertEqual(self.look(walk), [None, True, 1, [(0, 1)]])
        self.assertIs(walk.undo(), None)
        self.assertEqual(self.look(walk), [0, False, None, []])
        self.assertEqual(raised(walk.undo), ("NothingLeft",))
        walk.tell(0)
        walk.tell(1)
        walk.undo()
        walk.undo()
        self.assertEqual(self.look(walk), [0, False, None, []])

    def test_trees_without_knots(self):
        for tree, answer in ((None, None), (0, 0), (2, 2)):
            walk = TreeWalk(tree)
            self.assertEqual(self.look(walk), [None, True, answer, []])
            self.assertEqual([raised(walk.tell, 0), raised(walk.undo)], [("Ended",), ("NothingLeft",)])

    def test_a_branch_that_is_none(self):
        walk = TreeWalk((3, (None, 0, (1, (1, 1, 1)))))
        walk.tell(0)
        self.assertEqual(self.look(walk), [None, True, None, [(3, 0)]])
        walk.undo()
        walk.tell(2)
        self.assertEqual(self.look(walk), [1, False, None, [(3, 2)]])

    def test_values(self):
        for signs, tree in ((2, (0, (0, 1))), (3, (0, (0, 1, 2)))):
            walk = TreeWalk(tree)
            for value in all_but([None, *range(signs)]):
                raised_is(self, raised(walk.tell, value), ("InvalidValue", value))
            self.assertEqual(self.look(walk), [0, False, None, []])
        self.assertEqual(raised(TreeWalk(1).tell, "x"), ("Ended",))

    def test_drawn_walks(self):
        chance = random.Random(323)
        for _ in range(60):
            signs = chance.choice([2, 3])
            tree = some_tree(chance, 4, signs, 5)
            row = tuple(chance.choice([None, *range(signs), *range(signs)]) for _ in range(4))
            walk = TreeWalk(tree)
            while not walk.ended:
                walk.tell(row[walk.asked])
            self.assertEqual(walk.answer, value_of(tree, row))
            self.assertEqual([value for _, value in walk.told()], [row[at] for at, _ in walk.told()])

    def test_told_lists_are_new(self):
        walk = TreeWalk(KNOT)
        walk.tell(0)
        walk.told().clear()
        self.assertEqual(walk.told(), [(0, 0)])


class AnyValueTest(unittest.TestCase):
    def test_is_tree_tells_a_boolean(self):
        for value in any_values():
            self.assertIsInstance(is_tree(value, 2, 3), bool)

    def test_drawn_tables_have_trees_exactly_if_they_need_no_box(self):
        chance = random.Random(324)
        for at in range(60):
            signs = 2 + at % 2
            table = some_table(chance, chance.randrange(4), signs, 5)
            self.assertIs(raised(best_tree, table) is None, needs_no_box(table))
        self.assertEqual(best_tree(not_table()), (0, (1, 0)))
