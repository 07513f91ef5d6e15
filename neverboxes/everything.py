"""Stocks that make all tables, and programs for any table."""

from neverboxes.checks import check_signs
from neverboxes.composing import Writing
from neverboxes.errors import NotAll, UnknownLot
from neverboxes.lots import check_rows, every_lot, is_lot
from neverboxes.making import splitter
from neverboxes.rows import is_below, rows_fit
from neverboxes.sheets import sheet_of
from neverboxes.tablemaking import check_match
from neverboxes.tables import Table

THREE_ROWS = ((1, None), (None, 1), (0, 0))
ALL_THREE = (0, 1, 2)
OR_CASES = (((1, None), 1), ((None, 1), 1), ((0, 0), 0))


def or_table(signs):
    return Table(2, OR_CASES, signs=signs)


def at_once_table(signs):
    check_signs(signs)
    cases = []
    for sign in range(signs):
        cases.extend([((1, sign, None), sign), ((0, None, sign), sign), ((None, sign, sign), sign)])
    return Table(3, cases, signs=signs)


def makes_all(stock):
    return ALL_THREE not in sheet_of(THREE_ROWS, stock)


def three_rows_program(stock):
    """A program of the stock that is not alike on the three rows."""
    sheet = sheet_of(THREE_ROWS, stock)
    if ALL_THREE in sheet:
        raise NotAll()
    return splitter(sheet, ALL_THREE)


class Eithers:
    """Writes lines for a stock that makes all tables; among them lines that are 1 as soon as one of two others is."""

    def __init__(self, stock, inputs):
        self._split = three_rows_program(stock)
        self._column = self._split.column(THREE_ROWS)
        self._signs = stock.signs
        self._writing = Writing(stock, inputs)

    def at_input(self, at):
        return self._writing.number_of(("input", at))

    def at_sign(self, sign):
        return self._writing.number_of(("sign", sign))

    def never(self):
        return self._writing.number_of(("never",))

    def ask(self, test, ends):
        """The line that asks a line and goes on to the end for its sign; it hangs for a sign without one."""
        branches = [ends.get(sign, self.never()) for sign in range(self._signs)]
        return self._writing.number_of(("ask", test, *branches))

    def bit(self, test, sign, if_so, if_not):
        """The line with one sign if a line has some sign, and with another one if it has another one."""
        ends = {other: self.at_sign(if_so if other == sign else if_not) for other in range(self._signs)}
        return self.ask(test, ends)

    def turned_bit(self, number):
        return self.ask(number, {0: self.at_sign(1), 1: self.at_sign(0)})

    def either(self, one, other):
        """The line that is 1 if one of two lines is 1, and 0 if both are 0, for lines that are never 2.

        Some row is above the first two of the three rows, so the program has one sign at both, another at the third.
        """
        number = self._writing.put(self._split, [one, other])
        yes, no = self._column[0], self._column[2]
        if (yes, no) == (1, 0):
            return number
        return self.ask(number, {yes: self.at_sign(1), no: self.at_sign(0)})

    def program_at(self, number):
        return self._writing.program_at(number)


def or_program(stock):
    writing = Eithers(stock, 2)
    ends = {0: writing.at_sign(0), 1: writing.at_sign(1)}
    # The table hangs where an input is 2 and the other one is not 1, so such an input must hang, too.
    one, other = [writing.ask(writing.at_input(at), ends) for at in range(2)]
    return writing.program_at(writing.either(one, other))


def sign_at_once(writing, sign):
    """The line that tells whether the table at once has a sign: 1 if so, 0 if it has another one."""
    test, then, other = [writing.at_input(at) for at in range(3)]
    not_one = writing.bit(test, 1, 0, 1)
    not_zero = writing.bit(test, 0, 0, 1)
    not_then = writing.bit(then, sign, 0, 1)
    not_other = writing.bit(other, sign, 0, 1)
    by_test = writing.turned_bit(writing.either(not_one, not_then))
    by_other = writing.turned_bit(writing.either(not_zero, not_other))
    by_both = writing.turned_bit(writing.either(not_then, not_other))
    return writing.either(by_test, writing.either(by_other, by_both))


def at_once_program(stock):
    writing = Eithers(stock, 3)
    end = writing.never()
    for sign in reversed(range(stock.signs)):
        end = writing.ask(sign_at_once(writing, sign), {0: end, 1: writing.at_sign(sign)})
    return writing.program_at(end)


def row_missed(writing, row):
    """The line that is 0 if all inputs are as in a row, and 1 as soon as one that answers there has another sign."""
    tests = [writing.bit(writing.at_input(at), sign, 0, 1) for at, sign in enumerate(row) if sign is not None]
    if len(tests) == 0:
        return writing.at_sign(0)
    missed = tests[0]
    for test in tests[1:]:
        missed = writing.either(missed, test)
    return missed


def any_program(table, stock):
    check_match(table, stock)
    writing = Eithers(stock, table.inputs)
    end = writing.never()
    for row, sign in table.least:
        # At once of the row's being there, its sign and the table so far is this sign as soon as one of both tells it.
        settled = writing.either(writing.turned_bit(row_missed(writing, row)), writing.bit(end, sign, 1, 0))
        end = writing.ask(settled, {0: end, 1: writing.at_sign(sign)})
    return writing.program_at(end)


def hang_together(rows, lot):
    if not is_lot(lot, len(rows)):
        raise UnknownLot(lot)
    reached = [lot[0]]
    left = list(lot[1:])
    before = len(left) + 1
    while len(left) < before:
        before = len(left)
        near = [row for row in left if any([rows_fit(rows[row], rows[other]) for other in reached])]
        reached = reached + near
        left = [row for row in left if row not in near]
    return len(left) == 0


def widest_pairs(rows, signs):
    check_signs(signs)
    check_rows(rows, signs)
    pairs = []
    for lot in every_lot(len(rows)):
        if hang_together(rows, lot):
            reach = [at for at, row in enumerate(rows) if any([is_below(rows[lower], row) for lower in lot])]
            pairs.append((lot, tuple(reach)))
    return pairs
