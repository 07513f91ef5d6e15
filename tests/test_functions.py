import random
import unittest

from neverboxes.boxes import Box, Stock
from neverboxes.functions import Book, Function
from neverboxes.tablemaking import makes
from neverboxes.tables import Table
from tests.definitions import and_table
from tests.samples import (
    all_but, any_values, is_under, not_table, or_stock, or_table, raised, raised_is, rows_of, some_table,
    yes_table,
)

OR = Stock(Box("or", or_table()))
# The example of the document: f answers where its input is 0, and calls itself where it is 1.
LOOP = Function("f", 1, [("input", 0), ("sign", 1), ("call", "f", 0), ("ask", 0, 1, 2)])
YES = Function("yes", 0, [("sign", 1)])
NEVER = Function("never", 0, [("never",)])
# Each goes on to the other one with its second input as the first one, until it sees a 1.
EVEN = Function("even", 2, [("input", 0), ("input", 1), ("call", "odd", 1, 1), ("sign", 1), ("ask", 0, 2, 3)])
ODD = Function("odd", 2, [("input", 0), ("input", 1), ("call", "even", 1, 1), ("sign", 0), ("ask", 0, 2, 3)])


def rounds_of(stock, functions):
    """The values of all functions at all rows, round by round, up to the last one that changes something."""
    rows = {function.name: rows_of(function.inputs, stock.signs) for function in functions}
    states = [{name: {row: None for row in rows[name]} for name in rows}]
    while True:
        after = {function.name: {row: value_of(function.lines(), row, stock, states[-1])
                                 for row in rows[function.name]} for function in functions}
        if after == states[-1]:
            return states
        states.append(after)


def value_of(lines, row, stock, before, at=-1):
    line = lines[at]
    if line[0] == "input":
        return row[line[1]]
    if line[0] in ("sign", "never"):
        return line[1] if line[0] == "sign" else None
    if line[0] == "ask":
        test = value_of(lines, row, stock, before, line[1])
        return None if test is None else value_of(lines, row, stock, before, line[2 + test])
    told = tuple(value_of(lines, row, stock, before, number) for number in line[2:])
    return stock.box(line[1]).table(told) if line[0] == "box" else before[line[1]][told]


def drawn_books(many, seed):
    chance = random.Random(seed)
    for _ in range(many):
        signs = chance.choice([2, 3])
        boxes = [Box(name, some_table(chance, chance.randrange(3), signs)) for name in "ab"[:chance.randrange(3)]]
        stock = Stock(*boxes, signs=signs)
        inputs = {name: chance.randrange(4 if signs == 2 else 3) for name in "fghijk"[:chance.randint(1, 6)]}
        functions = [Function(name, inputs[name], drawn_lines(chance, stock, inputs, name)) for name in inputs]
        yield stock, functions


def drawn_lines(chance, stock, inputs, name):
    lines = [("input", at) for at in range(inputs[name])] + [("sign", chance.randrange(stock.signs))]
    while len(lines) < 9:
        at, word = len(lines), chance.choice(["ask", "ask", "call", "call", "box"])
        if word == "ask":
            lines.append(("ask", *[chance.randrange(at) for _ in range(1 + stock.signs)]))
        elif word == "call":
            called = chance.choice(list(inputs))
            lines.append(("call", called, *[chance.randrange(at) for _ in range(inputs[called])]))
        elif len(stock) > 0:
            box = chance.choice(stock.boxes())
            lines.append(("box", box.name, *[chance.randrange(at) for _ in range(box.table.inputs)]))
    return lines


class FunctionTest(unittest.TestCase):
    def test_told(self):
        function = Function(lines=(("input", 0), ("never",)), inputs=1, name="f")
        self.assertEqual([function.name, function.inputs, function.lines()], ["f", 1, [("input", 0), ("never",)]])
        for inputs in range(6):
            self.assertEqual(Function("abcdefgh", inputs, [5]).inputs, inputs)

    def test_lines_may_be_any_values(self):
        values = any_values()
        self.assertEqual(Function("f", 0, values).lines(), values)
        self.assertEqual(Function("f", 0, tuple(values)).lines(), values)

    def test_copies(self):
        lines = [("sign", 1), ("sign", 0)]
        function = Function("f", 0, lines)
        lines.clear()
        function.lines().pop()
        self.assertEqual(function.lines(), [("sign", 1), ("sign", 0)])

    def test_errors(self):
        for value in all_but(["or", "input"]):
            raised_is(self, raised(Function, value, 9, 5), ("InvalidName", value))
        for value in all_but([0, 1, 2, 3, 4]):
            raised_is(self, raised(Function, "f", value, 5), ("InvalidInputs", value))
        self.assertEqual(raised(Function, "f", 6, []), ("InvalidInputs", 6))
        for value in any_values():
            if not isinstance(value, (list, tuple)) or len(value) == 0:
                raised_is(self, raised(Function, "f", 0, value), ("InvalidLine", -1))


class BookTest(unittest.TestCase):
    def test_example_of_the_document(self):
        book = Book(Stock(), LOOP)
        self.assertEqual([book.rounds, book.function_table("f").least, book.round_of("f", (0,)),
                          book.answer_of("f", (1,))], [1, [((0,), 1)], 1, None])

    def test_told(self):
        book = Book(OR, LOOP, YES)
        self.assertEqual([book.stock, book.names(), len(book), repr(book)], [OR, ["f", "yes"], 2, "Book(2 functions)"])
        book.names().clear()
        self.assertEqual(book.names(), ["f", "yes"])

    def test_without_functions(self):
        book = Book(OR)
        self.assertEqual([book.names(), len(book), book.rounds, book.full_stock()], [[], 0, 0, OR])
        self.assertIs(bool(book), True)
        self.assertEqual(repr(book), "Book(0 functions)")

    def test_functions_without_inputs(self):
        again = Function("again", 0, [("call", "again")])
        book = Book(Stock(), again, YES, NEVER, Function("later", 0, [("call", "yes")]))
        self.assertEqual([book.answer_of(name, ()) for name in book.names()], [None, 1, None, 1])
        self.assertEqual([book.round_of(name, ()) for name in book.names()], [None, 1, None, 2])
        self.assertEqual(book.rounds, 2)
        self.assertEqual(book.function_table("later"), yes_table())
        self.assertEqual(Book(Stock(), again, NEVER).rounds, 0)

    def test_functions_that_call_each_other(self):
        book = Book(Stock(), EVEN, ODD)
        self.assertEqual(book.function_table("even").least, [((0, 1), 0), ((1, None), 1)])
        self.assertEqual(book.function_table("odd").least, [((0, 1), 1), ((1, None), 0)])
        self.assertEqual([book.round_of("even", row) for row in ((1, None), (0, 1), (0, 0), (0, None))],
                         [1, 2, None, None])
        self.assertEqual(book.rounds, 2)

    def test_rounds_look_at_the_round_before(self):
        # Each function calls the one ahead of it, or the one behind it: the order of the functions is no matter.
        chain = [Function("a", 0, [("sign", 1)])]
        for before, name in zip("abcde", "bcdef"):
            chain.append(Function(name, 0, [("call", before)]))
        for functions in (chain, chain[::-1]):
            book = Book(Stock(), *functions)
            self.assertEqual([book.round_of(name, ()) for name in "abcdef"], [1, 2, 3, 4, 5, 6])
            self.assertEqual([book.rounds, len(book)], [6, 6])

    def test_calls_in_calls_and_boxes(self):
        lines = [("input", 0), ("call", "yes"), ("box", "or", 0, 1), ("call", "id", 2)]
        same = Function("id", 1, [("input", 0)])
        book = Book(OR, Function("f", 1, lines), same, YES)
        self.assertEqual([book.answer_of("f", row) for row in ((None,), (0,), (1,))], [1, 1, 1])
        # In the first round yes hangs for its caller, and id for all rows.
        self.assertEqual([book.round_of("f", (None,)), book.round_of("f", (0,)), book.rounds], [2, 2, 2])

    def test_a_box_may_save_a_function_from_hanging(self):
        lines = [("input", 0), ("call", "f", 0), ("box", "or", 0, 1)]
        book = Book(OR, Function("f", 1, lines))
        self.assertEqual(book.function_table("f").least, [((1,), 1)])
        stock = Stock(Box("or", or_table()), Box("and", and_table()))
        lines = [("input", 0), ("call", "f", 0), ("box", "and", 0, 1)]
        self.assertEqual(Book(stock, Function("f", 1, lines)).function_table("f").least, [((0,), 0)])

    def test_agrees_with_the_definition(self):
        rounds = []
        for stock, functions in drawn_books(60, seed=11):
            book = Book(stock, *functions)
            states = rounds_of(stock, functions)
            rounds.append(book.rounds)
            self.assertEqual(book.rounds, len(states) - 1)
            for name, values in states[-1].items():
                table = book.function_table(name)
                self.assertEqual(table.all_values(), list(values.values()))
                self.assertEqual([table.inputs, table.signs], [len(list(values)[0]), stock.signs])
                self.assertEqual(book.box(name=name), Box(name, table))
                for row, value in values.items():
                    self.assertEqual(book.answer_of(row=row, name=name), value)
                    first = [at for at, state in enumerate(states) if state[name][row] is not None]
                    self.assertEqual(book.round_of(row=row, name=name), first[0] if first else None)
        self.assertGreater(max(rounds), 2)
        self.assertIn(0, rounds)

    def test_answers_stay(self):
        for stock, functions in drawn_books(20, seed=111):
            for before, after in zip(rounds_of(stock, functions), rounds_of(stock, functions)[1:]):
                for name in before:
                    self.assertTrue(is_under(tuple(before[name].values()), tuple(after[name].values())))

    def test_the_stock_makes_the_tables(self):
        made = 0
        for stock, functions in drawn_books(25, seed=112):
            book = Book(stock, *functions)
            for name in book.names():
                told = raised(makes, stock, book.function_table(name))
                if told is None:
                    made += 1
                    self.assertIs(makes(stock, book.function_table(name)), True)
        self.assertGreater(made, 20)

    def test_full_stock(self):
        book = Book(OR, LOOP, YES)
        self.assertEqual(book.full_stock(), Stock(Box("or", or_table()), Box("f", Table(1, [((0,), 1)])),
                                                  Box("yes", yes_table())))
        functions = [Function(name, 0, [("sign", 1)]) for name in "abcdeg"]
        self.assertEqual(Book(Stock(), *functions[:5]).full_stock().names(), list("abcde"))
        self.assertEqual(raised(Book(Stock(), *functions).full_stock), ("TooMany", "boxes", 6))
        self.assertEqual(raised(Book(or_stock(), *functions[:4]).full_stock), ("TooMany", "boxes", 6))
        self.assertEqual(Book(Stock(signs=3), Function("f", 0, [("sign", 2)])).full_stock().signs, 3)

    def test_copies(self):
        lines = [("input", 0)]
        book = Book(Stock(), Function("f", 1, lines))
        lines[0] = ("sign", 1)
        self.assertEqual(book.answer_of("f", (0,)), 0)

    def test_unknown_names_and_wrong_rows(self):
        book = Book(OR, LOOP)
        for value in [*any_values(), "or", "yes", "F"]:
            for call in (book.function_table, book.box):
                raised_is(self, raised(call, value), ("UnknownName", value))
            for call in (book.answer_of, book.round_of):
                raised_is(self, raised(call, value, 5), ("UnknownName", value))
        for value in all_but([(0,), (1,), (None,)]):
            for call in (book.answer_of, book.round_of):
                raised_is(self, raised(call, "f", value), ("InvalidRow", 0))
        self.assertEqual(raised(book.answer_of, "f", (2,)), ("InvalidRow", 0))
        self.assertEqual(Book(Stock(signs=3), Function("g", 1, [("input", 0)])).answer_of("g", (2,)), 2)


class BookErrorsTest(unittest.TestCase):
    def test_functions(self):
        for value in [*any_values(), Book(Stock())]:
            raised_is(self, raised(Book, OR, LOOP, value, 5), ("InvalidFunction", 1))
        self.assertEqual(raised(Book, OR, LOOP, LOOP, "f"), ("InvalidFunction", 2))

    def test_many_functions(self):
        functions = [Function(name, 0, [("sign", 1)]) for name in "abcdefg"]
        self.assertEqual(len(Book(Stock(), *functions[:6])), 6)
        self.assertEqual(raised(Book, Stock(), *functions), ("TooMany", "functions", 7))
        self.assertEqual(raised(Book, Stock(), *[LOOP] * 9), ("TooMany", "functions", 9))

    def test_double_names(self):
        self.assertEqual(raised(Book, Stock(), LOOP, YES, LOOP), ("DuplicateName", "f"))
        self.assertEqual(raised(Book, or_stock(), LOOP, YES), ("DuplicateName", "yes"))
        self.assertEqual(raised(Book, or_stock(), YES, LOOP, LOOP), ("DuplicateName", "yes"))

    def test_power_of_signs(self):
        for stock, most in ((Stock(), 3), (Stock(signs=3), 2)):
            self.assertEqual(len(Book(stock, Function("f", most, [("never",)]))), 1)
            for inputs in range(most + 1, 6):
                functions = [LOOP, Function("g", inputs, [("never",)]), Function("h", 5, [("never",)])]
                self.assertEqual(raised(Book, stock, *functions), ("TooMany", "rows", (stock.signs + 1) ** inputs))

    def check_wrong(self, stock, line, inputs=1):
        lines = [("input", 0), line, 5]
        raised_is(self, raised(Book, stock, YES, Function("f", inputs, lines)), ("WrongLine", "f", 1))

    def test_wrong_lines(self):
        for value in all_but([]):
            self.check_wrong(Stock(), value)
        for line in (["never"], ("never", 0), ("input", 1), ("input", -1), ("input", True), ("sign", 2), ("sign", False),
                     ("ask", 0, 0), ("ask", 0, 0, 0, 0), ("ask", 0, 0, 1), ("ask", 0, 0, True), ("box", "no", 0),
                     ("box", "f", 0), ("box", "yes"), ("call", "f"), ("call", "f", 0, 0), ("call", "f", 1),
                     ("call", "f", -1), ("call", "f", False), ("call", "yes", 0), ("call", "or", 0, 0), ("call",),
                     ("call", ["f"], 0), ("call", None), ["call", "f", 0], ("call", "f", [0]), ("call", "f", None),
                     ("Call", "f", 0), ("call", ("f",), 0), ("call", {}, 0)):
            self.check_wrong(Stock(), line)
        self.check_wrong(OR, ("box", "or", 0))
        self.check_wrong(OR, ("box", "or", 0, 1))
        self.check_wrong(OR, ("call", "or", 0, 0))
        self.check_wrong(Stock(signs=3), ("ask", 0, 0, 0))
        self.check_wrong(Stock(signs=3), ("sign", 3))

    def test_lines_that_may_stand(self):
        lines = [("input", 0), ("sign", 1), ("never",), ("ask", 0, 1, 2), ("call", "yes"), ("call", "f", 4),
                 ("box", "or", 5, 3)]
        self.assertEqual(Book(OR, Function("f", 1, lines), YES).names(), ["f", "yes"])
        self.assertEqual(len(Book(Stock(signs=3), Function("f", 1, [("input", 0), ("ask", 0, 0, 0, 0)]))), 1)

    def test_the_first_wrong_item_counts(self):
        one = Function("a", 0, [("sign", 1), 5, 6])
        other = Function("b", 0, [7])
        self.assertEqual(raised(Book, Stock(), YES, one, other), ("WrongLine", "a", 1))
        self.assertEqual(raised(Book, Stock(), other, one), ("WrongLine", "b", 0))

    def test_order(self):
        bad, wide = Function("f", 0, [5]), Function("g", 5, [5])
        self.assertEqual(raised(Book, Stock(), *[wide, bad, bad] * 3, 5), ("InvalidFunction", 9))
        self.assertEqual(raised(Book, Stock(), *[wide, bad, bad] * 3), ("TooMany", "functions", 9))
        self.assertEqual(raised(Book, Stock(), bad, wide, bad), ("DuplicateName", "f"))
        self.assertEqual(raised(Book, Stock(), bad, wide), ("TooMany", "rows", 3 ** 5))
        self.assertEqual(raised(Book, Stock(Box("g", not_table())), bad, wide), ("DuplicateName", "g"))
