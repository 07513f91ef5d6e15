"""What a bench has at one time, and the deeds that lead from this to what it has next."""

from neverboxes.boxes import Box
from neverboxes.errors import DuplicateName, InUse, InvalidDeed, InvalidName, InvalidProgram, InvalidTable, TooMany
from neverboxes.errors import Unfit, UnknownName
from neverboxes.halfseen import HalfSeen, do_agree
from neverboxes.lots import check_picks, check_rows
from neverboxes.programs import Program
from neverboxes.sheets import sheet_of
from neverboxes.tables import Table
from neverboxes.values import is_name

MOST_LISTS = 4
MOST_PROGRAMS = 4
# The numbers of items of the deeds.
SIZES = {"box": 3, "unbox": 2, "list": 3, "unlist": 2, "program": 3, "drop": 2, "see": 4, "unsee": 3}


def is_known(value, names):
    # Any value may be asked for, and a list cannot be looked up in a dict.
    return isinstance(value, str) and value in names


class State:
    """What a bench has at one time. It never changes, so histories and twins may share it.

    lists is the dict from the names of the lists to pairs of their rows, as a tuple, and the dict of the seen values;
    programs is the dict from the names of the programs to pairs of their inputs and their lines, as a tuple.
    """

    def __init__(self, stock, lists, programs):
        self.stock = stock
        self.lists = lists
        self.programs = programs
        # A sheet is worked out when it is first asked for, and then kept.
        self._sheets = {}

    def sheet_named(self, name):
        if not is_known(name, self.lists):
            raise UnknownName(name)
        if name not in self._sheets:
            self._sheets[name] = sheet_of(self.lists[name][0], self.stock)
        return self._sheets[name]

    def seen_half(self, name):
        """A new half-seen list with the sheet and the seen values of a list."""
        half = HalfSeen(self.sheet_named(name))
        for row, value in self.lists[name][1].items():
            half.see(row, value)
        return half

    def program_named(self, name):
        if not is_known(name, self.programs):
            raise UnknownName(name)
        inputs, lines = self.programs[name]
        return Program(self.stock, inputs, lines)

    def counts_text(self):
        return f"{len(self.stock)} boxes, {len(self.lists)} lists, {len(self.programs)} programs"

    def with_stock(self, stock):
        return State(stock, self.lists, self.programs)

    def with_lists(self, lists):
        state = State(self.stock, lists, self.programs)
        state.keep_sheets(self._sheets)
        return state

    def with_programs(self, programs):
        state = State(self.stock, self.lists, programs)
        state.keep_sheets(self._sheets)
        return state

    def keep_sheets(self, sheets):
        """Keeps those of some sheets whose lists stand here, too; the stock must be the same."""
        self._sheets = {name: sheet for name, sheet in sheets.items() if name in self.lists}

    def __eq__(self, other):
        # Two dicts are equal whatever their order is, but here the order counts.
        return (isinstance(other, State) and self.stock == other.stock
                and list(self.lists.items()) == list(other.lists.items())
                and list(self.programs.items()) == list(other.programs.items()))


def check_new_name(state, name):
    if not is_name(name):
        raise InvalidName(name)
    if name in state.stock or name in state.lists or name in state.programs:
        raise DuplicateName(name)


def put_box(state, deed):
    _, name, table = deed
    check_new_name(state, name)
    if not isinstance(table, Table) or table.signs != state.stock.signs:
        raise InvalidTable()
    stock = state.stock.with_box(Box(name, table))
    for rows, _ in state.lists.values():
        check_picks(len(rows), stock)
    return state.with_stock(stock)


def boxes_in(lines):
    """The list of the names of the boxes in some lines."""
    return [line[1] for line in lines if line[0] == "box"]


def take_box(state, deed):
    name = deed[1]
    if name not in state.stock:
        raise UnknownName(name)
    for by, (_, lines) in state.programs.items():
        if name in boxes_in(lines):
            raise InUse(name, by)
    left = state.with_stock(state.stock.without(name))
    for listed, (_, seen) in state.lists.items():
        # Without seen values there is nothing that could not agree, so no sheet is needed.
        if len(seen) > 0 and not do_agree(left.sheet_named(listed), seen):
            raise Unfit(listed)
    return left


def put_list(state, deed):
    _, name, rows = deed
    check_new_name(state, name)
    if len(state.lists) >= MOST_LISTS:
        raise TooMany("lists", len(state.lists) + 1)
    check_rows(rows, state.stock.signs)
    check_picks(len(rows), state.stock)
    return state.with_lists({**state.lists, name: (tuple(rows), {})})


def take_list(state, deed):
    name = deed[1]
    if not is_known(name, state.lists):
        raise UnknownName(name)
    return state.with_lists({other: told for other, told in state.lists.items() if other != name})


def is_program_for(value, stock):
    """Whether any value is a program with the signs of a stock, all boxes in whose lines are boxes of the stock."""
    if not isinstance(value, Program) or value.stock.signs != stock.signs:
        return False
    names = sorted(set(boxes_in(value.lines())))
    return all([name in stock and stock.box(name) == value.stock.box(name) for name in names])


def put_program(state, deed):
    _, name, program = deed
    check_new_name(state, name)
    if not is_program_for(program, state.stock):
        raise InvalidProgram()
    if len(state.programs) >= MOST_PROGRAMS:
        raise TooMany("programs", len(state.programs) + 1)
    return state.with_programs({**state.programs, name: (program.inputs, tuple(program.lines()))})


def take_program(state, deed):
    name = deed[1]
    if not is_known(name, state.programs):
        raise UnknownName(name)
    return state.with_programs({other: told for other, told in state.programs.items() if other != name})


def with_seen(state, name, half):
    """The state in which a list has the seen values of a half-seen list."""
    return state.with_lists({**state.lists, name: (state.lists[name][0], half.seen())})


def see_value(state, deed):
    _, name, row, value = deed
    half = state.seen_half(name)
    half.see(row, value)
    return with_seen(state, name, half)


def unsee_value(state, deed):
    _, name, row = deed
    half = state.seen_half(name)
    half.unsee(row)
    return with_seen(state, name, half)


ACTIONS = {
    "box": put_box, "unbox": take_box, "list": put_list, "unlist": take_list,
    "program": put_program, "drop": take_program, "see": see_value, "unsee": unsee_value,
}


def is_deed(value):
    if not isinstance(value, tuple) or len(value) == 0 or not isinstance(value[0], str):
        return False
    return SIZES.get(value[0]) == len(value)


def state_behind(state, deeds):
    """What a bench has behind some deeds, if it has a state ahead of them."""
    for at, deed in enumerate(deeds):
        if not is_deed(deed):
            raise InvalidDeed(at)
    behind = state
    for deed in deeds:
        action = ACTIONS[deed[0]]
        behind = action(behind, deed)
    return behind


def kept_deed(deed):
    """A deed that nobody can change: the rows of a list may be handed over as a list."""
    if deed[0] == "list":
        return ("list", deed[1], tuple(deed[2]))
    return deed


def told_deed(deed):
    if deed[0] == "list":
        return ("list", deed[1], list(deed[2]))
    return deed
