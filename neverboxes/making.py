"""Programs for columns, made from what the strikes and cuts that lead to a sheet have told."""

from neverboxes.asking import columns_of_inputs
from neverboxes.composing import Writing
from neverboxes.errors import Broken, UnknownLot
from neverboxes.lots import alike_on, answers_on, is_lot


def is_split(column, rows):
    """Whether a column answers on some rows and is not alike on them."""
    return answers_on(column, rows) and not alike_on(column, rows)


class Maker:
    """Lines of programs for columns that keep a sheet."""

    def __init__(self, sheet):
        rows = sheet.rows()
        self._signs = sheet.stock.signs
        self._many = len(rows)
        self._writing = Writing(sheet.stock, len(rows[0]))
        self._known = [(column, self._number_of(("input", at))) for at, column in enumerate(columns_of_inputs(rows))]
        for blow in sheet.blow_list():
            name, columns, column = blow[1], blow[4], blow[5]
            ends = [self.line_for(filling) for filling in columns]
            self._known.append((column, self._number_of(("box", name, *ends))))

    def _number_of(self, line):
        return self._writing.number_of(line)

    def line_for(self, column):
        """The number of a line that has a column; it must keep the pairs that the known columns leave."""
        for known, number in self._known:
            if known == column:
                return number
        return self._line_on(column, [row for row, value in enumerate(column) if value is not None],
                             list(range(self._many)))

    def _line_on(self, column, rows, led):
        """As line_for for the column cut to some rows, if only the rows led get here."""
        if len(rows) == 0:
            return self._number_of(("never",))
        for known, number in self._known:
            if is_split(known, rows):
                return self._split_by(known, number, column, rows, led)
        return self._asked_for(column, rows, led)

    def _split_by(self, known, number, column, rows, led):
        branches = []
        for sign in range(self._signs):
            rows_there = [row for row in rows if known[row] == sign]
            led_there = [row for row in led if known[row] == sign]
            branches.append(self._line_on(column, rows_there, led_there))
        return self._number_of(("ask", number, *branches))

    def _asked_for(self, column, rows, led):
        """The line for rows at which all known columns that answer are alike.

        Each of these is asked that keeps a row out which has another value; the others would keep out none.
        """
        sign = column[rows[0]]
        end = self._number_of(("sign", sign))
        for known, number in self._known:
            if alike_on(known, rows):
                inside = [row for row in led if known[row] == known[rows[0]]]
                if any([column[row] != sign and row not in inside for row in led]):
                    end = self._asked(number, known[rows[0]], end)
                    led = inside
        return end

    def _asked(self, number, sign, end):
        """The line that asks a line and goes on to an end if it answers with one sign."""
        never = self._number_of(("never",))
        branches = [end if other == sign else never for other in range(self._signs)]
        return self._number_of(("ask", number, *branches))

    def program_for(self, column):
        return self._writing.program_at(self.line_for(column))

    def split_program(self, rows):
        """The program of the first known column that splits some rows."""
        return self._writing.program_at([number for known, number in self._known if is_split(known, rows)][0])


def made(sheet, column):
    """A program for a column that keeps the sheet."""
    return Maker(sheet).program_for(column)


def make(sheet, column):
    bent = sheet.broken(column)
    if bent is not None:
        lot, one, other = bent
        raise Broken(lot, one, other)
    return made(sheet, column)


def splitter(sheet, lot):
    if not is_lot(lot, len(sheet.rows())) or lot in sheet:
        raise UnknownLot(lot)
    return Maker(sheet).split_program(lot)


def guard(sheet, lot):
    reach = sheet.reach(lot)
    return made(sheet, tuple([0 if row in reach else None for row in range(len(sheet.rows()))]))
