"""Texts of programs."""

from neverboxes.checks import MOST_INPUTS, check_lines
from neverboxes.lines import is_line, line_text
from neverboxes.programs import Program
from neverboxes.values import DIGITS, is_name

MOST_DIGITS = 9


def program_text(program):
    lines = [f"program {program.inputs}"]
    for line in program.lines():
        lines.append(line_text(line))
    lines.append("end")
    return "".join([line + "\n" for line in lines])


def read_number(word):
    """The number of a word of digits, None for a word that is no number."""
    if not 1 <= len(word) <= MOST_DIGITS or not all([letter in DIGITS for letter in word]):
        return None
    if word[0] == "0" and word != "0":
        return None
    return int(word)


def line_of_words(words, signs):
    """The line with some words, whatever its numbers are; None if they have the form of no line."""
    counts = {"input": 1, "sign": 1, "never": 0, "ask": 1 + signs}
    if words[0] == "box" and len(words) > 1 and is_name(words[1]):
        names = words[:2]
    elif words[0] in counts and len(words) == 1 + counts[words[0]]:
        names = words[:1]
    else:
        return None
    numbers = [read_number(word) for word in words[len(names):]]
    if None in numbers:
        return None
    return (*names, *numbers)


class ProgramReading:
    """What has been read of a text of a program so far."""

    def __init__(self, stock):
        self.over = False
        self._stock = stock
        self._inputs = None
        self._lines = []

    def take(self, line):
        words = line.split(" ")
        if self.over:
            return "form"
        if self._inputs is None:
            return self._take_head(words)
        if line == "end":
            self.over = True
            return "empty" if len(self._lines) == 0 else ""
        return self._take_line(line_of_words(words, self._stock.signs))

    def _take_head(self, words):
        if len(words) != 2 or words[0] != "program":
            return "form"
        inputs = read_number(words[1])
        if inputs is None or inputs > MOST_INPUTS:
            return "form"
        self._inputs = inputs
        return ""

    def _take_line(self, line):
        if line is None:
            return "form"
        if not self._numbers_stand(line):
            return "reference"
        if not is_line(line, len(self._lines), self._inputs, self._stock):
            return "box"
        self._lines.append(line)
        return ""

    def _numbers_stand(self, line):
        bounds = {"input": self._inputs, "sign": self._stock.signs}
        bound = bounds.get(line[0], len(self._lines))
        numbers = line[2:] if line[0] == "box" else line[1:]
        return all([number < bound for number in numbers])

    def whole_program(self):
        return Program(self._stock, self._inputs, self._lines)


def read_program(text, stock):
    reading = ProgramReading(stock)
    check_lines(text, reading)
    return reading.whole_program()
