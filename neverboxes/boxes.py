"""Boxes, which are tables with names, and stocks of them."""

from neverboxes.checks import check_signs
from neverboxes.errors import DuplicateName, InvalidBox, InvalidName, InvalidTable, TooMany, UnknownName
from neverboxes.tables import Table
from neverboxes.values import is_name

MOST_BOXES = 5


class Box:
    def __init__(self, name, table):
        if not is_name(name):
            raise InvalidName(name)
        if not isinstance(table, Table):
            raise InvalidTable()
        self.name = name
        self.table = table

    def __eq__(self, other):
        return isinstance(other, Box) and self.name == other.name and self.table == other.table

    def __repr__(self):
        return f"Box({self.name}, {self.table.inputs} inputs)"


def by_names(boxes):
    """The dict from the names of some boxes to the boxes, in order."""
    found = {}
    for box in boxes:
        if box.name in found:
            raise DuplicateName(box.name)
        found[box.name] = box
    return found


class Stock:
    def __init__(self, *boxes, signs=2):
        check_signs(signs)
        for at, box in enumerate(boxes):
            if not isinstance(box, Box) or box.table.signs != signs:
                raise InvalidBox(at)
        if len(boxes) > MOST_BOXES:
            raise TooMany("boxes", len(boxes))
        self.signs = signs
        self._boxes = list(boxes)
        self._by_name = by_names(boxes)

    def boxes(self):
        return list(self._boxes)

    def names(self):
        return list(self._by_name)

    def box(self, name):
        if name not in self:
            raise UnknownName(name)
        return self._by_name[name]

    def with_box(self, box):
        boxes = [*self._boxes, box]
        return Stock(*boxes, signs=self.signs)

    def without(self, name):
        if name not in self:
            raise UnknownName(name)
        left = [box for box in self._boxes if box.name != name]
        return Stock(*left, signs=self.signs)

    def only(self, names):
        for name in names:
            if name not in self:
                raise UnknownName(name)
        left = [box for box in self._boxes if box.name in names]
        return Stock(*left, signs=self.signs)

    def __contains__(self, x):
        # Any value may be asked for, and a list cannot be looked up in a dict.
        return isinstance(x, str) and x in self._by_name

    def __eq__(self, other):
        return isinstance(other, Stock) and self.signs == other.signs and self._boxes == other._boxes

    def __len__(self):
        return len(self._boxes)

    def __bool__(self):
        # Without it a stock without boxes would be false, as its length is 0.
        return True

    def __repr__(self):
        return f"Stock({len(self._boxes)} boxes, {self.signs} signs)"
