"""Programs that are put into programs, and rows that tell two programs apart."""

from neverboxes.checks import check_inputs
from neverboxes.errors import InvalidPrograms, Mismatch
from neverboxes.lines import references, with_references
from neverboxes.programs import Program
from neverboxes.tablework import parting_row


def check_inners(inners, outer, inputs):
    if not isinstance(inners, (list, tuple)) or len(inners) != outer.inputs:
        raise InvalidPrograms(-1)
    for at, inner in enumerate(inners):
        if not isinstance(inner, Program) or inner.stock != outer.stock or inner.inputs != inputs:
            raise InvalidPrograms(at)


def moved(lines, by):
    """The lines with all references moved."""
    return [with_references(line, [number + by for number in references(line)]) for line in lines]


def put_into(outer, inners, *, inputs):
    check_inputs(inputs)
    check_inners(inners, outer, inputs)
    lines = []
    ends = []
    for inner in inners:
        lines.extend(moved(inner.lines(), len(lines)))
        ends.append(len(lines) - 1)
    places = []
    for line in outer.lines():
        if line[0] == "input":
            places.append(ends[line[1]])
        else:
            places.append(len(lines))
            lines.append(with_references(line, [places[number] for number in references(line)]))
    if places[-1] != len(lines) - 1:
        # The last line of outer is an input, and the value of a program is that of its last line.
        lines.append(lines[places[-1]])
    return Program(outer.stock, inputs, lines).pruned()


def programs_part(one, other):
    if not isinstance(one, Program) or not isinstance(other, Program):
        raise Mismatch()
    if one.inputs != other.inputs or one.stock.signs != other.stock.signs:
        raise Mismatch()
    return parting_row(one.as_table(), other.as_table())
