"""Trees of asks: what they are, which ones a table has, and walks along them."""

from neverboxes.asks import askable, stuck_rows
from neverboxes.checks import check_inputs
from neverboxes.composing import Writing
from neverboxes.errors import Ended, InvalidTree, InvalidValue, NothingLeft, Stuck
from neverboxes.rows import every_row
from neverboxes.values import is_number, is_sign, is_value


def is_tree(value, inputs, signs):
    if not isinstance(value, tuple):
        return is_value(value, signs)
    if len(value) != 2 or not is_number(value[0], 0, inputs - 1):
        return False
    branches = value[1]
    if not isinstance(branches, tuple) or len(branches) != signs:
        return False
    return all([is_tree(branch, inputs, signs) for branch in branches])


def tree_value(tree, row):
    while isinstance(tree, tuple):
        at, branches = tree
        tree = None if row[at] is None else branches[row[at]]
    return tree


def tree_depth(tree):
    if not isinstance(tree, tuple):
        return 0
    return 1 + max([tree_depth(branch) for branch in tree[1]])


def check_not_stuck(table):
    stuck = stuck_rows(table)
    if len(stuck) > 0:
        raise Stuck(stuck[0])


def rows_behind(row, at, signs):
    """The list of the rows with each sign at an input."""
    return [row[:at] + (sign,) + row[at + 1:] for sign in range(signs)]


class Thrift:
    """What there is to know of the thrifty trees of a table at each of its rows; it is worked out once for a row."""

    def __init__(self, table):
        check_not_stuck(table)
        self._table = table
        self._best = {}
        self._many = {}

    def best_at(self, row):
        """The best tree at a row."""
        if row not in self._best:
            trees = []
            for at in askable(self._table, row):
                behind = rows_behind(row, at, self._table.signs)
                trees.append((at, tuple([self.best_at(other) for other in behind])))
            # Of several trees with the least depth min takes the first one, which begins with the least input.
            self._best[row] = min(trees, key=tree_depth, default=self._table.value_at(row))
        return self._best[row]

    def many_at(self, row):
        """The number of the thrifty trees at a row."""
        if row not in self._many:
            inputs = askable(self._table, row)
            self._many[row] = sum([self.many_with(row, at) for at in inputs]) if len(inputs) > 0 else 1
        return self._many[row]

    def many_with(self, row, at):
        """The number of those that begin with an input."""
        many = 1
        for other in rows_behind(row, at, self._table.signs):
            many = many * self.many_at(other)
        return many


def nothing_known(table):
    return (None,) * table.inputs


def best_tree(table):
    return Thrift(table).best_at(nothing_known(table))


def number_of_trees(table):
    return Thrift(table).many_at(nothing_known(table))


def every_tree(table):
    check_not_stuck(table)
    asked_at = {row: askable(table, row) for row in every_row(table.inputs, signs=table.signs)}
    start = nothing_known(table)
    for tree in thrifty_trees(table, asked_at, start):
        yield tree


def thrifty_trees(table, asked_at, row):
    """The thrifty trees at a row, if asked_at is the dict from the rows to their askable inputs."""
    if len(asked_at[row]) == 0:
        yield table.value_at(row)
    for at in asked_at[row]:
        rows = rows_behind(row, at, table.signs)
        for branches in thrifty_branches(table, asked_at, rows):
            yield (at, branches)


def thrifty_branches(table, asked_at, rows):
    """The tuples of thrifty trees, one for each of some rows."""
    if len(rows) == 0:
        yield ()
    else:
        first = rows[0]
        rest = rows[1:]
        for tree in thrifty_trees(table, asked_at, first):
            for others in thrifty_branches(table, asked_at, rest):
                yield (tree, *others)


def tree_line(tree, writing):
    """The number of the line with the values of a tree."""
    if tree is None:
        return writing.number_of(("never",))
    if not isinstance(tree, tuple):
        return writing.number_of(("sign", tree))
    at, branches = tree
    test = writing.number_of(("input", at))
    ends = [tree_line(branch, writing) for branch in branches]
    return writing.number_of(("ask", test, *ends))


def tree_program(tree, inputs, stock):
    check_inputs(inputs)
    if not is_tree(tree, inputs, stock.signs):
        raise InvalidTree()
    writing = Writing(stock, inputs)
    return writing.program_at(tree_line(tree, writing))


class TreeWalk:
    def __init__(self, tree):
        # The trees at which the walk has stood; None stands behind a knot whose input was told to hang.
        self._trees = [tree]
        self._values = []

    @property
    def asked(self):
        return None if self.ended else self._trees[-1][0]

    @property
    def ended(self):
        return not isinstance(self._trees[-1], tuple)

    @property
    def answer(self):
        return self._trees[-1] if self.ended else None

    def tell(self, value):
        if self.ended:
            raise Ended()
        branches = self._trees[-1][1]
        if value is not None and not is_sign(value, len(branches)):
            raise InvalidValue(value)
        self._trees.append(None if value is None else branches[value])
        self._values.append(value)

    def undo(self):
        if len(self._values) == 0:
            raise NothingLeft()
        self._trees.pop()
        self._values.pop()

    def told(self):
        return [(tree[0], value) for tree, value in zip(self._trees, self._values)]
