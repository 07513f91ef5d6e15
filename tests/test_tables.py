import random
import unittest
from itertools import product

from neverboxes.boxes import Box, Stock
from neverboxes.tables import Table
from tests.samples import (
    OR_CASES, all_but, any_values, by_row, conflict_of, hangs_by_values, is_under, least_by_values,
    or_table, raised, raised_is, rows_of, some_cases, some_table, value_by_cases, yes_table,
)


def small_tables(signs):
    """All tables of 0 and 1 inputs, and some of 2 and 3."""
    chance = random.Random(signs)
    found = [Table(0, [], signs=signs)] + [Table(0, [((), sign)], signs=signs) for sign in range(signs)]
    for values in product([None, *range(signs)], repeat=signs + 1):
        if values[0] is None or all(value == values[0] for value in values):
            found.append(Table.of_values(1, values, signs=signs))
    for inputs in (2, 3):
        found.extend(some_table(chance, inputs, signs, chance.randrange(7)) for _ in range(12))
    return found


class GivenTest(unittest.TestCase):
    def test_or(self):
        table = or_table()
        self.assertEqual(table.least, [((None, 1), 1), ((0, 0), 0), ((1, None), 1)])
        self.assertEqual(table.hangs, [(None, 0), (0, None)])
        self.assertEqual([table(row) for row in rows_of(2, 2)], [None, None, 1, None, 0, 1, 1, 1, 1])

    def test_example_of_the_document(self):
        table = Table(2, [((1, None), 1), ((0, 0), 0), ((0, 1), 1)])
        self.assertEqual(table.hangs, [(None, 0), (None, 1), (0, None)])

    def test_attributes(self):
        self.assertEqual([or_table().inputs, or_table().signs], [2, 2])
        table = Table(signs=3, cases=(), inputs=1)
        self.assertEqual([table.inputs, table.signs], [1, 3])

    def test_no_cases(self):
        for inputs, signs in product(range(4), (2, 3)):
            table = Table(inputs, [], signs=signs)
            self.assertEqual(table.least, [])
            self.assertEqual(table.all_values(), [None] * len(rows_of(inputs, signs)))
            self.assertEqual(table.hangs, [row for row in rows_of(inputs, signs) if None not in row])

    def test_no_inputs(self):
        self.assertEqual([Table(0, []).least, Table(0, []).hangs, Table(0, [])(())], [[], [()], None])
        table = Table(0, [((), 2)], signs=3)
        self.assertEqual([table.least, table.hangs, table(()), len(table)], [[((), 2)], [], 2, 1])

    def test_a_table_that_answers_everywhere(self):
        table = Table(3, [((None, None, None), 0)])
        self.assertEqual([table.least, table.hangs], [[((None, None, None), 0)], []])
        self.assertEqual(set(table.all_values()), {0})

    def test_doubled_cases_and_cases_above_others_count_once(self):
        cases = [((0, 1), 1), ((0, None), 1), ((0, 1), 1), ((0, None), 1), ((0, 0), 1)]
        self.assertEqual(Table(2, cases).least, [((0, None), 1)])
        self.assertEqual(Table(2, cases), Table(2, [((0, None), 1)]))

    def test_all_tables_of_few_cases_agree_with_the_definition(self):
        for signs, inputs in product((2, 3), (1, 2)):
            cases = list(product(rows_of(inputs, signs), range(signs)))
            for chosen in product(cases, repeat=2):
                self.check(inputs, signs, chosen)

    def test_drawn_tables_agree_with_the_definition(self):
        chance = random.Random(4)
        for signs, inputs in product((2, 3), (0, 1, 2, 3)):
            for many in range(12):
                self.check(inputs, signs, some_cases(chance, inputs, signs, many))
        self.check(5, 2, some_cases(chance, 5, 2, 3)[:1])
        self.check(4, 3, some_cases(chance, 4, 3, 3)[:1])

    def check(self, inputs, signs, cases):
        conflict = conflict_of(cases)
        if conflict is not None:
            self.assertEqual(raised(Table, inputs, cases, signs=signs), ("Conflict", *conflict))
            return
        table = Table(inputs, cases, signs=signs)
        values = {row: value_by_cases(cases, row) for row in rows_of(inputs, signs)}
        self.assertEqual(table.all_values(), list(values.values()))
        self.assertEqual([table(row) for row in values], list(values.values()))
        self.assertEqual(table.least, least_by_values(values))
        self.assertEqual(table.hangs, hangs_by_values(values))
        self.assertEqual(Table(inputs, table.least, signs=signs), table)
        self.assertEqual([len(table), bool(table)], [len(table.least), True])

    def test_the_greatest_numbers_of_inputs(self):
        self.assertEqual(len(Table(5, []).all_values()), 243)
        self.assertEqual(len(Table(4, [], signs=3).all_values()), 256)
        full = [(row, sum(row) - sum(row) // 2 * 2) for row in rows_of(5, 2) if None not in row]
        table = Table(5, full)
        self.assertEqual([table.least, len(table.hangs)], [full, 80])


class CasesErrorsTest(unittest.TestCase):
    def test_signs(self):
        for value in all_but([2, 3]):
            told = raised(Table, 0, [], signs=value)
            raised_is(self, told, ("InvalidSigns", value))
        self.assertIsNone(raised(Table, 0, [], signs=3))

    def test_inputs(self):
        for value in all_but([0, 1, 2, 3, 4, 8, 9, 999999999]):
            raised_is(self, raised(Table, value, []), ("InvalidInputs", value))
            raised_is(self, raised(Table, value, [], signs=3), ("InvalidInputs", value))

    def test_too_many_inputs(self):
        for signs, inputs in ((2, 6), (2, 999999999), (3, 5), (3, 8)):
            self.assertEqual(raised(Table, inputs, [], signs=signs), ("TooMany", "inputs", inputs))
        self.assertIsNone(raised(Table, 5, []))
        self.assertIsNone(raised(Table, 4, [], signs=3))

    def test_no_list_of_cases(self):
        for value in [value for value in any_values() if not isinstance(value, (list, tuple))]:
            raised_is(self, raised(Table, 1, value), ("InvalidCase", -1))

    def test_wrong_cases(self):
        for value in all_but([((0,), 1)]):
            raised_is(self, raised(Table, 1, [((0,), 1), value]), ("InvalidCase", 1))
        for case in ([(0,), 1], ((0,),), ((0,), 1, 1), ([0], 1), ((0, 0), 1), ((), 1), ((2,), 1), ((0,), 2),
                     ((True,), 1), ((0,), True), ((0,), None), (0, 1), ((0,), (1,)), (None, 1)):
            self.assertEqual(raised(Table, 1, [case]), ("InvalidCase", 0), case)
            self.assertEqual(raised(Table, 1, (((0,), 1), ((1,), 0), case, case)), ("InvalidCase", 2), case)
        self.assertIsNone(raised(Table, 1, [((2,), 2)], signs=3))
        self.assertEqual(raised(Table, 1, [((3,), 2)], signs=3), ("InvalidCase", 0))
        self.assertEqual(raised(Table, 1, [((2,), 3)], signs=3), ("InvalidCase", 0))

    def test_conflicts(self):
        self.assertEqual(raised(Table, 2, [((1, None), 1), ((None, 1), 0)]), ("Conflict", 0, 1))
        cases = [((0, 0), 0), ((1, None), 1), ((1, 1), 1), ((None, 1), 0), ((None, None), 1)]
        self.assertEqual(raised(Table, 2, cases), ("Conflict", 1, 3))
        self.assertEqual(raised(Table, 0, [((), 0), ((), 0), ((), 1)]), ("Conflict", 0, 2))
        self.assertEqual(raised(Table, 1, [((None,), 0), ((0,), 0), ((0,), 1)]), ("Conflict", 0, 2))

    def test_order_of_errors(self):
        self.assertEqual(raised(Table, -1, 5, signs=4), ("InvalidSigns", 4))
        self.assertEqual(raised(Table, 9, 5, signs=True), ("InvalidSigns", True))
        self.assertEqual(raised(Table, -1, 5), ("InvalidInputs", -1))
        self.assertEqual(raised(Table, 6, 5), ("TooMany", "inputs", 6))
        self.assertEqual(raised(Table, 0, [((), 0), ((), 1), 5]), ("InvalidCase", 2))

    def test_signs_are_keyword_only(self):
        with self.assertRaises(TypeError):
            Table(0, [], 3)


class AskedTest(unittest.TestCase):
    def test_wrong_rows(self):
        for value in all_but([(0,), (1,), (None,)]):
            raised_is(self, raised(Table(1, []), value), ("InvalidRow", 0))
        for row in ([0, 1], (0,), (0, 1, 0), (0, 2), (True, 0), (0, False), ((0, 1),)):
            self.assertEqual(raised(or_table(), row), ("InvalidRow", 0))
        self.assertEqual(Table(1, [((2,), 0)], signs=3)((2,)), 0)
        self.assertEqual(raised(Table(1, [], signs=3), (3,)), ("InvalidRow", 0))

    def test_by_name(self):
        self.assertEqual(or_table()(row=(1, None)), 1)

    def test_matches(self):
        self.assertIs(or_table().matches(Table(2, [])), True)
        self.assertIs(or_table().matches(Table(1, [])), False)
        self.assertIs(or_table().matches(other=or_table(3)), False)
        self.assertIs(Table(0, []).matches(Table(0, [], signs=3)), False)
        for value in all_but([or_table()]):
            self.assertIs(or_table().matches(value), False)

    def test_below(self):
        self.assertIs(Table(2, []).below(or_table()), True)
        self.assertIs(or_table().below(Table(2, [])), False)
        self.assertIs(or_table().below(or_table()), True)
        self.assertIs(Table(2, [((0, 0), 1)]).below(or_table()), False)
        self.assertIs(Table(1, []).below(or_table()), False)
        self.assertIs(Table(2, []).below(other=or_table(3)), False)

    def test_repr(self):
        self.assertEqual(repr(or_table()), "Table(2 inputs, 3 cases)")
        self.assertEqual(repr(Table(1, [((0,), 1)])), "Table(1 inputs, 1 cases)")
        self.assertEqual(repr(Table(0, [])), "Table(0 inputs, 0 cases)")

    def test_a_table_is_always_true(self):
        self.assertIs(bool(Table(0, [])), True)
        self.assertEqual(len(Table(0, [])), 0)

    def test_equal(self):
        self.assertEqual(or_table(), Table(2, list(reversed(OR_CASES))))
        self.assertNotEqual(or_table(), or_table(3))
        self.assertNotEqual(Table(1, []), Table(2, []))
        self.assertNotEqual(Table(0, []), Table(0, [((), 0)]))
        self.assertNotEqual(Table(0, []), Table(0, [], signs=3))
        for value in [*all_but([or_table()]), Stock(), Box("or", or_table()), or_table().least]:
            self.assertIs(or_table() == value, False)
            self.assertIs(or_table() != value, True)
            self.assertIs(value == or_table(), False)


class PairsOfTablesTest(unittest.TestCase):
    def test_below_join_and_common_part_agree_with_the_definitions(self):
        for signs in (2, 3):
            tables = small_tables(signs)
            for one, other in product(tables, tables):
                self.check(one, other)

    def check(self, one, other):
        if one.inputs != other.inputs:
            self.assertIs(one.below(other), False)
            self.assertEqual(raised(lambda: one | other), ("Mismatch",))
            self.assertEqual(raised(lambda: one & other), ("Mismatch",))
            return
        values, others = by_row(one), by_row(other)
        self.assertIs(one.below(other), all(values[row] in (None, others[row]) for row in values))
        kept = [value if value == others[row] else None for row, value in values.items()]
        self.assertEqual((one & other).all_values(), kept)
        clash = [
            (first, second)
            for first, (row, sign) in enumerate(one.least)
            for second, (against, sign_there) in enumerate(other.least)
            if sign != sign_there and any(is_under(row, top) and is_under(against, top) for top in values)
        ]
        if clash:
            self.assertEqual(raised(lambda: one | other), ("Conflict", *clash[0]))
        else:
            both = [others[row] if value is None else value for row, value in values.items()]
            self.assertEqual((one | other).all_values(), both)

    def test_join_of_or(self):
        yes, no = Table(2, [((None, 1), 1), ((1, None), 1)]), Table(2, [((0, 0), 0)])
        self.assertEqual(yes | no, or_table())
        self.assertEqual(or_table() & yes, yes)
        self.assertEqual((yes & no).least, [])

    def test_first_conflict_of_one_counts_first(self):
        one = Table(2, [((0, 0), 0), ((1, 1), 1)])
        other = Table(2, [((None, 1), 0), ((0, 0), 1)])
        self.assertEqual(raised(lambda: one | other), ("Conflict", 0, 1))
        self.assertEqual(raised(lambda: other | one), ("Conflict", 0, 1))
        self.assertEqual(raised(lambda: Table(2, [((1, 1), 1)]) | other), ("Conflict", 0, 0))

    def test_mismatch(self):
        for other in (Table(1, []), Table(3, []), or_table(3)):
            self.assertEqual(raised(lambda: or_table() | other), ("Mismatch",))
            self.assertEqual(raised(lambda: or_table() & other), ("Mismatch",))
        self.assertEqual(raised(lambda: yes_table() | Table(1, [((None,), 0)])), ("Mismatch",))
        for other in all_but([or_table()]):
            self.assertEqual(raised(lambda: or_table() | other), ("Mismatch",))
            self.assertEqual(raised(lambda: or_table() & other), ("Mismatch",))

    def test_tables_stay_as_they_were(self):
        one, other = or_table(), Table(2, [((None, None), 1)])
        self.assertEqual(raised(lambda: one | other), ("Conflict", 1, 0))
        (one & other)
        self.assertEqual([one, other], [or_table(), Table(2, [((None, None), 1)])])


class OfValuesTest(unittest.TestCase):
    def test_read_back(self):
        for signs in (2, 3):
            for table in small_tables(signs):
                values = table.all_values()
                self.assertEqual(Table.of_values(table.inputs, values, signs=signs), table)
                self.assertEqual(Table.of_values(table.inputs, tuple(values), signs=signs), table)
        self.assertEqual(Table.of_values(inputs=0, values=[1]), yes_table())

    def test_all_columns_of_one_input(self):
        for signs in (2, 3):
            rows = rows_of(1, signs)
            for values in product([None, *range(signs)], repeat=len(rows)):
                self.check(1, signs, rows, values)

    def test_drawn_columns(self):
        chance = random.Random(9)
        for _ in range(300):
            signs, inputs = chance.choice([(2, 2), (3, 2), (2, 3)])
            rows = rows_of(inputs, signs)
            values = some_table(chance, inputs, signs).all_values()
            for _ in range(chance.randrange(3)):
                values[chance.randrange(len(rows))] = chance.choice([None, *range(signs)])
            self.check(inputs, signs, rows, values)

    def check(self, inputs, signs, rows, values):
        wrong = [
            (one, other)
            for one, row in enumerate(rows) for other, above in enumerate(rows)
            if values[one] is not None and is_under(row, above) and values[other] != values[one]
        ]
        if wrong:
            expected = ("TakenBack", *wrong[0])
            self.assertEqual(raised(Table.of_values, inputs, values, signs=signs), expected)
        else:
            self.assertEqual(Table.of_values(inputs, values, signs=signs).all_values(), list(values))

    def test_taken_back_may_be_far_above(self):
        values = [None] * 9
        values[0] = 1
        self.assertEqual(raised(Table.of_values, 2, values), ("TakenBack", 0, 1))
        values = [1] * 9
        values[8] = 0
        self.assertEqual(raised(Table.of_values, 2, values), ("TakenBack", 0, 8))

    def test_errors_in_order(self):
        for value in all_but([2, 3]):
            raised_is(self, raised(Table.of_values, -1, 5, signs=value), ("InvalidSigns", value))
        for value in all_but([0, 1, 2, 3, 4, 8, 9, 999999999]):
            raised_is(self, raised(Table.of_values, value, 5), ("InvalidInputs", value))
        self.assertEqual(raised(Table.of_values, 6, 5), ("TooMany", "inputs", 6))
        self.assertEqual(raised(Table.of_values, 5, 5, signs=3), ("TooMany", "inputs", 5))
        for value in all_but([(0,), (1,), (None,), [0], [None]]):
            self.assertEqual(raised(Table.of_values, 0, value), ("InvalidColumn",), repr(value))
        for values in ([0, 1], [0, 1, 2], [0, 1, True], [0, 1, 0, 1], [1, 0, "0"], "000", {0: 0, 1: 1, 2: 2}):
            self.assertEqual(raised(Table.of_values, 1, values), ("InvalidColumn",), repr(values))
        self.assertEqual(raised(Table.of_values, 1, [1, 0, 3], signs=2), ("InvalidColumn",))
        self.assertEqual(raised(Table.of_values, 1, [None, 0, 2, 3], signs=3), ("InvalidColumn",))

    def test_it_is_a_static_method(self):
        self.assertIsInstance(vars(Table)["of_values"], staticmethod)
        with self.assertRaises(TypeError):
            Table.of_values(0, [2], 3)


class CopiesTest(unittest.TestCase):
    def test_arguments_are_copied_and_stay(self):
        cases = list(OR_CASES)
        table = Table(2, cases)
        self.assertEqual(cases, list(OR_CASES))
        cases.clear()
        self.assertEqual(table, or_table())
        values = or_table().all_values()
        table = Table.of_values(2, values)
        self.assertEqual(values, or_table().all_values())
        values[:] = [None] * 9
        self.assertEqual(table, or_table())

    def test_told_lists_are_new(self):
        table = or_table()
        for told in (table.least, table.hangs, table.all_values()):
            told.clear()
        self.assertEqual([len(table.least), len(table.hangs), len(table.all_values())], [3, 2, 9])
        self.assertEqual(table, or_table())
        self.assertIsNot(table.least, table.least)
        self.assertIsNot(table.hangs, table.hangs)

    def test_least_and_hangs_are_properties_told_as_lists(self):
        self.assertIsInstance(vars(Table)["least"], property)
        self.assertIsInstance(vars(Table)["hangs"], property)
        self.assertIs(type(or_table().least), list)
        self.assertIs(type(or_table().hangs), list)
        self.assertEqual({type(case) for case in or_table().least}, {tuple})
