"""Benches: a stock, lists of rows with seen values, and programs, with history, drafts and lines that are answered."""

from neverboxes.boxes import Stock
from neverboxes.deeds import State, kept_deed, state_behind, told_deed
from neverboxes.errors import InDraft, InvalidLot, InvalidRow, NoDraft, NothingLeft, UnknownName
from neverboxes.rows import NEVER, read_row

UNKNOWN = "unknown"
NOTHING = "none"
OPEN = "open"
DONE = "done"
OPEN_ROW = "?"


def spaced(items):
    """The text of some items with spaces between; that of none is a word of its own."""
    return " ".join([str(item) for item in items]) if len(items) > 0 else NOTHING


def value_text(value):
    return NEVER if value is None else str(value)


def lot_of_words(words, count):
    """The lot of a list of so many rows whose numbers some words are; what is no such word stands in it as None."""
    numbers = {str(row): row for row in range(count)}
    return tuple([numbers.get(word) for word in words])


def forced_answer(bench, name):
    return str(len(bench.list_sheet(name)))


def reach_answer(bench, name, words):
    sheet = bench.list_sheet(name)
    lot = lot_of_words(words, len(sheet.rows()))
    if lot in sheet:
        return spaced(sheet.reach(lot))
    if lot not in sheet.open_lots():
        raise InvalidLot(tuple(words))
    return OPEN


def columns_answer(bench, name):
    return str(bench.half_seen(name).number())


def sure_answer(bench, name):
    half = bench.half_seen(name)
    sure = half.sure
    return "".join([value_text(sure[row]) if row in sure else OPEN_ROW for row in range(len(half.sheet.rows()))])


def next_answer(bench, name):
    row = bench.half_seen(name).next_row()
    return NOTHING if row is None else str(row)


def value_answer(bench, name, text):
    program = bench.named_program(name)
    return value_text(program(read_row(text, signs=bench.signs)))


def bare_answer(bench, word):
    """The answer to a line of one word."""
    if word == "boxes":
        return spaced(bench.present_stock().names())
    if word == "lists":
        return spaced(bench.list_names())
    if word == "programs":
        return spaced(bench.program_names())
    if word == "undo":
        bench.undo()
        return DONE
    if word == "redo":
        bench.redo()
        return DONE
    return UNKNOWN


# The answers to lines of two words, the second of which is the name of a list.
LIST_ANSWERS = {"forced": forced_answer, "columns": columns_answer, "sure": sure_answer, "next": next_answer}


def words_answer(bench, words):
    word = words[0]
    if len(words) == 1:
        return bare_answer(bench, word)
    if len(words) == 2 and word in LIST_ANSWERS:
        answer = LIST_ANSWERS[word]
        return answer(bench, words[1])
    if len(words) == 3 and word == "value":
        return value_answer(bench, words[1], words[2])
    if len(words) > 2 and word == "reach":
        return reach_answer(bench, words[1], words[2:])
    return UNKNOWN


def line_answer(bench, line):
    words = line.split(" ")
    if "\n" in line or "" in words:
        return UNKNOWN
    try:
        return words_answer(bench, words)
    except (UnknownName, InvalidLot, InvalidRow, InDraft, NothingLeft) as error:
        return f"error {error.code}"


class Bench:
    def __init__(self, *, signs=2):
        self._state = State(Stock(signs=signs), {}, {})
        self.signs = signs
        # Steps are tuples (state ahead of it, deeds, state behind it).
        self._past = []
        self._future = []
        # The deeds of the draft or trial that is going on, None if there is none, and the state ahead of it.
        self._drafted = None
        self._before = None
        self._in_trial = False
        self._lines = []

    def do(self, *deeds):
        state = state_behind(self._state, deeds)
        kept = [kept_deed(deed) for deed in deeds]
        if self._drafted is not None:
            self._drafted.extend(kept)
        else:
            self._add_step(self._state, kept, state)
        self._state = state

    def _add_step(self, before, deeds, behind):
        if len(deeds) > 0:
            self._past.append((before, tuple(deeds), behind))
            self._future.clear()

    def _check_idle(self):
        if self.busy:
            raise InDraft()

    def undo(self):
        self._check_idle()
        if len(self._past) == 0:
            raise NothingLeft()
        step = self._past.pop()
        self._future.append(step)
        self._state = step[0]

    def redo(self):
        self._check_idle()
        if len(self._future) == 0:
            raise NothingLeft()
        step = self._future.pop()
        self._past.append(step)
        self._state = step[2]

    def history(self):
        return (len(self._past), len(self._future))

    def present_stock(self):
        return self._state.stock

    @property
    def busy(self):
        return self._drafted is not None

    def list_names(self):
        return list(self._state.lists)

    def program_names(self):
        return list(self._state.programs)

    def list_sheet(self, name):
        return self._state.sheet_named(name)

    def half_seen(self, name):
        return self._state.seen_half(name)

    def named_program(self, name):
        return self._state.program_named(name)

    def _start_draft(self):
        self._check_idle()
        self._drafted = []
        self._before = self._state

    def _settle_draft(self):
        """Makes all deeds of the draft one step of the history."""
        self._add_step(self._before, self._drafted, self._state)
        self._drafted = None

    def begin(self):
        self._start_draft()

    def _check_draft(self):
        if self._drafted is None or self._in_trial:
            raise NoDraft()

    def keep(self):
        self._check_draft()
        self._settle_draft()

    def leave(self):
        self._check_draft()
        self._state = self._before
        self._drafted = None

    def trial(self, function):
        self._start_draft()
        self._in_trial = True
        kept = None
        try:
            if function(self) is True:
                kept = True
        finally:
            # An error of the function goes on to the caller, but the bench must be as it was.
            self._in_trial = False
            if kept is None:
                self._state = self._before
                self._drafted = None
        if kept is None:
            return False
        self._settle_draft()
        return True

    def journal(self):
        deeds = [deed for step in self._past for deed in step[1]]
        if self._drafted is not None:
            deeds.extend(self._drafted)
        return [told_deed(deed) for deed in deeds]

    @staticmethod
    def replayed(deeds, *, signs=2):
        bench = Bench(signs=signs)
        for deed in deeds:
            bench.do(deed)
        return bench

    def tried(self, *deeds):
        state = state_behind(self._state, deeds)
        return (state.stock.names(), [(name, len(state.sheet_named(name))) for name in state.lists])

    def say(self, line):
        answer = line_answer(self, line)
        self._lines.append((line, answer))
        return answer

    def __call__(self, line):
        return self.say(line)

    def log(self):
        return list(self._lines)

    def twin(self):
        if self._in_trial:
            raise InDraft()
        other = Bench(signs=self.signs)
        other._state = self._state
        other._past = list(self._past)
        other._future = list(self._future)
        other._drafted = None if self._drafted is None else list(self._drafted)
        other._before = self._before
        other._lines = list(self._lines)
        return other

    def __eq__(self, other):
        return isinstance(other, Bench) and self._state == other._state

    def __len__(self):
        return len(self._state.stock)

    def __bool__(self):
        # Without it a bench without boxes would be false, as its length is 0.
        return True

    def __repr__(self):
        return f"Bench({self._state.counts_text()})"
