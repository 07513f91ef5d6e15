import random
import unittest

from neverboxes.boxes import Box, Stock
from neverboxes.firing import Firing
from neverboxes.nets import Net
from tests.samples import all_but, drawn_nets, line_by_values, or_table, raised, raised_is, rest_of, rows_of

OR = Stock(Box("or", or_table()))
NET = Net(OR, 2, [("box", "or", 1, 3), ("box", "or", 2, 0), ("input", 0), ("input", 1)])


class FiringTest(unittest.TestCase):
    def test_one_by_one(self):
        firing = Firing(row=(1, None), net=NET)
        self.assertIs(firing.net, NET)
        self.assertEqual([firing.values_now(), firing.ready(), firing.rest], [(None,) * 4, [2], False])
        self.assertIs(firing.fire(0), False)
        self.assertIs(firing.fire(cell=2), True)
        self.assertIs(firing.fire(2), False)
        self.assertEqual([firing.values_now(), firing.ready()], [(None, None, 1, None), [1]])
        self.assertEqual([firing.fire(1), firing.fire(3), firing.ready(), firing.rest], [True, False, [0], False])
        self.assertEqual(repr(firing), "Firing(2 of 4)")
        self.assertEqual([firing.fire(0), firing.ready(), firing.rest], [True, [], True])
        self.assertEqual(firing.values_now(), (1, 1, 1, None))
        self.assertEqual(repr(firing), "Firing(3 of 4)")

    def test_undo(self):
        firing = Firing(NET, (1, None))
        self.assertEqual(raised(firing.undo), ("NothingLeft",))
        for cell in (0, 2, 2, 1, 3):
            firing.fire(cell)
        # Only the firings of 2 and 1 have changed a value.
        self.assertIs(firing.undo(), None)
        self.assertEqual(firing.values_now(), (None, None, 1, None))
        firing.undo()
        self.assertEqual([firing.values_now(), firing.ready()], [(None,) * 4, [2]])
        self.assertEqual(raised(firing.undo), ("NothingLeft",))
        firing.fire(2)
        self.assertEqual(firing.values_now(), (None, None, 1, None))

    def test_finish(self):
        firing = Firing(NET, (1, None))
        # The first round fires 2 alone, as 1 comes ahead of it; then 1, and 0 with the third round.
        self.assertEqual([firing.finish(), firing.values_now(), firing.rest], [3, (1, 1, 1, None), True])
        self.assertEqual(firing.finish(), 0)
        self.assertEqual(Firing(NET, (None, None)).finish(), 0)
        self.assertEqual(Firing(NET, (0, 1)).finish(), 2)

    def test_undo_behind_finish(self):
        firing = Firing(NET, (1, 0))
        firing.fire(3)
        firing.finish()
        self.assertEqual(firing.values_now(), (1, 1, 1, 0))
        told = []
        while firing.values_now() != (None,) * 4:
            firing.undo()
            told.append(firing.values_now())
        self.assertEqual(told, [(None, 1, 1, 0), (None, None, 1, 0), (None, None, None, 0), (None,) * 4])
        self.assertEqual(raised(firing.undo), ("NothingLeft",))
        self.assertEqual([firing.finish(), firing.values_now()], [3, (1, 1, 1, 0)])

    def test_twin(self):
        firing = Firing(NET, (1, 0))
        firing.fire(2)
        firing.fire(1)
        twin = firing.twin()
        self.assertIs(twin.net, NET)
        firing.undo()
        self.assertEqual(firing.fire(3), True)
        self.assertEqual([twin.values_now(), twin.ready()], [(None, 1, 1, None), [0, 3]])
        twin.finish()
        self.assertEqual(firing.values_now(), (None, None, 1, 0))
        for _ in range(2):
            twin.undo()
        self.assertEqual(twin.values_now(), (None, 1, 1, None))
        for _ in range(2):
            twin.undo()
        self.assertEqual(raised(twin.undo), ("NothingLeft",))
        self.assertEqual(firing.values_now(), (None, None, 1, 0))

    def test_twin_of_a_firing_of_which_some_was_taken_back(self):
        firing = Firing(NET, (1, 0))
        firing.finish()
        firing.undo()
        twin = firing.twin()
        self.assertEqual(twin.values_now(), firing.values_now())
        for _ in range(3):
            self.assertEqual([twin.undo(), firing.undo()], [None, None])
            self.assertEqual(twin.values_now(), firing.values_now())
        self.assertEqual([raised(twin.undo), raised(firing.undo)], [("NothingLeft",)] * 2)

    def test_each_order_leads_to_the_rest_values(self):
        chance = random.Random(12)
        for net in drawn_nets(chance, 50):
            row = chance.choice(rows_of(net.inputs, net.stock.signs))
            firing = Firing(net, row)
            values = list(firing.values_now())
            changed = 0
            while not firing.rest:
                expected = [cell for cell, line in enumerate(net.cells())
                            if line_by_values(net.stock, line, row, values) != values[cell]]
                self.assertEqual(firing.ready(), expected)
                if chance.random() < 0.2 and changed > 0:
                    firing.undo()
                    changed -= 1
                    values = list(firing.values_now())
                    continue
                cell = chance.randrange(len(net))
                self.assertIs(firing.fire(cell), cell in expected)
                changed += cell in expected
                values[cell] = line_by_values(net.stock, net.cells()[cell], row, values)
                self.assertEqual(firing.values_now(), tuple(values))
            self.assertEqual(firing.values_now(), rest_of(net, row))
            self.assertEqual(firing.ready(), [])
            self.assertEqual(sum(value is not None for value in firing.values_now()), changed)

    def test_rounds_of_finish(self):
        chance = random.Random(13)
        for net in drawn_nets(chance, 40):
            row = chance.choice(rows_of(net.inputs, net.stock.signs))
            values, rounds = [None] * len(net), 0
            while True:
                before = list(values)
                for at, line in enumerate(net.cells()):
                    values[at] = line_by_values(net.stock, line, row, values)
                if values == before:
                    break
                rounds += 1
            firing = Firing(net, row)
            self.assertEqual([firing.finish(), firing.values_now()], [rounds, tuple(values)])

    def test_rows(self):
        for value in all_but([]):
            raised_is(self, raised(Firing, NET, value), ("InvalidRow", 0))
        for value in ((0,), (0, 2), [0, 1], (0, True), (0, 1, 1)):
            self.assertEqual(raised(Firing, NET, value), ("InvalidRow", 0))
        self.assertEqual(Firing(Net(OR, 0, [("never",)]), ()).finish(), 0)

    def test_cells(self):
        firing = Firing(NET, (1, 1))
        for value in all_but([0, 1, 2, 3]):
            raised_is(self, raised(firing.fire, value), ("InvalidNumber", value))
        self.assertEqual(firing.values_now(), (None,) * 4)
        self.assertEqual(raised(firing.undo), ("NothingLeft",))

    def test_nothing_else_changes(self):
        firing = Firing(NET, (1, 1))
        firing.ready().clear()
        self.assertEqual(firing.ready(), [2, 3])
        self.assertEqual([firing.rest, firing.values_now()], [False, (None,) * 4])
        firing.finish()
        self.assertEqual(NET.rest_values((1, None)), (1, 1, 1, None))
        self.assertEqual(Firing(NET, (1, 1)).values_now(), (None,) * 4)
