"""Point 37: what is lacking for a greedy product to come to an order."""

import unittest

from seamlayers.beneath import is_beneath
from seamlayers.errors import InvalidKind, InvalidOrder
from seamlayers.lacking import lacking, lacking_ahead, lacking_between

from tests import reference, standreference
from tests.support import Refusals, judge_kind, judge_order
from tests.test_beneath import beneath_greedy, great_orders, some_orders
from tests.test_orders import GOOD, wrong_orders

KIND = InvalidKind, judge_kind
ORDER = InvalidOrder, judge_order


class Lacking(unittest.TestCase, Refusals):
    def check(self, kind, found, goal, tried, whole_with):
        """Whether an order is the least one with which a greedy product has the goal beneath it."""
        self.assertTrue(beneath_greedy(kind, goal, whole_with(found)))
        for other in tried:
            there = beneath_greedy(kind, goal, whole_with(other))
            self.assertIs(is_beneath(kind, found, other), there)

    def test_small_orders(self):
        for kind in reference.small_kinds():
            tried = some_orders(kind, 4)[:40]
            for order in tried[::6]:
                for goal in tried[::4]:
                    self.check(kind, lacking(kind, order, goal), goal, tried,
                               lambda other, order=order: standreference.greedy(kind, order, other))
                    self.check(kind, lacking_ahead(kind, order, goal), goal, tried,
                               lambda other, order=order: standreference.greedy(kind, other, order))

    def test_between(self):
        for kind in reference.small_kinds():
            tried = some_orders(kind, 4)[:30]
            for ahead in tried[::7]:
                for behind in tried[1::8]:
                    for goal in tried[::6]:
                        self.check(kind, lacking_between(kind, ahead, behind, goal), goal, tried,
                                   lambda other, ends=(ahead, behind): standreference.whole(
                                       kind, [ends[0], other, ends[1]]))

    def test_great_orders(self):
        for kind in reference.all_kinds():
            told = great_orders(kind)
            for order in told[::2]:
                for goal in told:
                    found = lacking(kind, order, goal)
                    self.check(kind, found, goal, told[::3],
                               lambda other, order=order: standreference.greedy(kind, order, other))
                    turned = standreference.turned(kind, order), standreference.turned(kind, goal)
                    self.assertEqual(lacking_ahead(kind, *turned), standreference.turned(kind, found))

    def test_great_orders_between(self):
        for kind in reference.all_kinds():
            told = great_orders(kind)[:5]
            for ahead in told[:3]:
                for behind in told[1:4]:
                    for goal in told[::2]:
                        self.check(kind, lacking_between(kind, ahead, behind, goal), goal, told[::3],
                                   lambda other, ends=(ahead, behind): standreference.whole(
                                       kind, [ends[0], other, ends[1]]))

    def test_nothing_and_all_is_lacking(self):
        for kind in reference.all_kinds():
            start = kind.start()
            for order in great_orders(kind):
                self.assertEqual([lacking(kind, order, order), lacking_ahead(kind, order, order)], [start, start])
                self.assertEqual([lacking(kind, order, start), lacking_ahead(kind, order, start)], [start, start])
                self.assertEqual([lacking(kind, start, order), lacking_ahead(kind, start, order)], [order, order])
                self.assertEqual(lacking_between(kind, start, start, order), order)
                self.assertEqual(lacking_between(kind, order, start, order), start)
                self.assertEqual(lacking_between(kind, start, order, order), start)

    def test_wrong_arguments(self):
        for kind, one, other in GOOD:
            names = ("order", "ahead", "behind", "goal")
            further = [(name, wrong) for wrong in wrong_orders(kind) for name in names]
            told = [("kind", kind, *KIND), ("order", one, *ORDER), ("goal", other, *ORDER)]
            for function in (lacking, lacking_ahead):
                self.assert_refusals(function, kind, told, further)
            told[1:2] = [("ahead", one, *ORDER), ("behind", other, *ORDER)]
            self.assert_refusals(lacking_between, kind, told, further)


if __name__ == "__main__":
    unittest.main()
