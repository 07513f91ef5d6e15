"""Programs that are put into programs, and rows that tell two programs apart."""

from neverboxes.checks import check_inputs
from neverboxes.errors import InvalidPrograms, Mismatch
from neverboxes.lines import references, with_references
from neverboxes.programs import Program
from neverboxes.tablework import parting_row


class Writing:
    """Lines of programs over one stock with one number of inputs, of which each is written once.

    Several programs may share the lines; the one that is asked for is pruned.
    """

    def __init__(self, stock, inputs):
        self._stock = stock
        self._inputs = inputs
        self._numbers = {}

    def number_of(self, line):
        """The number of a line, which is put behind the others if it is new."""
        if line not in self._numbers:
            self._numbers[line] = len(self._numbers)
        return self._numbers[line]

    def put(self, program, ends):
        """The number of the line with the value of a program at the row of the values of some lines."""
        places = []
        for line in program.lines():
            if line[0] == "input":
                places.append(ends[line[1]])
            else:
                places.append(self.number_of(with_references(line, [places[number] for number in references(line)])))
        return places[-1]

    def put_as_it_is(self, program):
        """As put, for a program that has the inputs of these lines."""
        return self.put(program, [self.number_of(("input", at)) for at in range(self._inputs)])

    def program_at(self, number):
        lines = list(self._numbers)
        return Program(self._stock, self._inputs, lines[:number + 1]).pruned()


def check_inners(inners, outer, inputs):
    if not isinstance(inners, (list, tuple)) or len(inners) != outer.inputs:
        raise InvalidPrograms(-1)
    for at, inner in enumerate(inners):
        if not isinstance(inner, Program) or inner.stock != outer.stock or inner.inputs != inputs:
            raise InvalidPrograms(at)


def put_into(outer, inners, *, inputs):
    check_inputs(inputs)
    check_inners(inners, outer, inputs)
    writing = Writing(outer.stock, inputs)
    return writing.program_at(writing.put(outer, [writing.put_as_it_is(inner) for inner in inners]))


def programs_part(one, other):
    if not isinstance(one, Program) or not isinstance(other, Program):
        raise Mismatch()
    if one.inputs != other.inputs or one.stock.signs != other.stock.signs:
        raise Mismatch()
    return parting_row(one.as_table(), other.as_table())
