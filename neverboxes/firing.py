"""Nets whose cells are fired one by one."""

from neverboxes.errors import NothingLeft


class Firing:
    def __init__(self, net, row):
        net.check_given(row)
        self.net = net
        self._row = row
        self._values = [None] * len(net)
        self._fired = []

    def values_now(self):
        return tuple(self._values)

    def value_behind(self, cell):
        """The value that a cell would have behind its firing."""
        return self.net.fired_value(cell, self._row, self._values)

    def ready(self):
        return [cell for cell, value in enumerate(self._values) if self.value_behind(cell) != value]

    @property
    def rest(self):
        return len(self.ready()) == 0

    def fire(self, cell):
        self.net.check_cell(cell)
        value = self.value_behind(cell)
        if value == self._values[cell]:
            return False
        self._values[cell] = value
        self._fired.append(cell)
        return True

    def undo(self):
        if len(self._fired) == 0:
            raise NothingLeft()
        # A sign never changes again, so the cell hung ahead of the firing.
        cell = self._fired.pop()
        self._values[cell] = None

    def do_round(self):
        """Fires all cells once, and tells whether some value has changed."""
        changes = [self.fire(cell) for cell in range(len(self._values))]
        return True in changes

    def finish(self):
        rounds = 0
        while self.do_round():
            rounds += 1
        return rounds

    def twin(self):
        other = Firing(self.net, self._row)
        for cell in list(self._fired):
            other.fire(cell)
        return other

    def __repr__(self):
        return f"Firing({len(self._values) - self._values.count(None)} of {len(self._values)})"
