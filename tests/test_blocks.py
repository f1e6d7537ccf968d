"""Point 9: blocks."""

import unittest

from seamlayers.blocks import greatest_in, how_many_in, parted, steps_in
from seamlayers.errors import InvalidKind, InvalidList, InvalidOrder
from seamlayers.kinds import Kind
from seamlayers.orders import greatest, is_order

from tests import reference
from tests.support import Refusals, judge_block, judge_kind, judge_order
from tests.test_orders import GOOD, ring_with, wrong_orders

KIND = InvalidKind, judge_kind
ORDER = InvalidOrder, judge_order
BLOCK = InvalidList, judge_block


def made_in(kind, block):
    """All orders that steps of a block make, with their crossings, in rising number of these."""
    found = {tuple(kind.start()): 0}
    level = [kind.start()]
    while level:
        further = []
        for order in level:
            for step in block:
                new = reference.step_done(kind, order, step)
                if tuple(new) not in found:
                    found[tuple(new)] = found[tuple(order)] + 1
                    further.append(new)
        level = further
    return found


def blocks_of(kind):
    return reference.subsets(list(range(kind.steps())))


def is_endless(kind, block):
    return kind.name() == "ring" and len(block) == kind.size()


def wrong_blocks(kind):
    steps = list(range(kind.steps()))
    wrong = [[kind.steps()], [-1], steps + [kind.steps()], tuple(steps), {step: step for step in steps}, [None]]
    if len(steps) > 1:
        wrong += [steps[::-1], [0, 0], [0, True], [False, 1], steps[:1] + steps]
    return wrong + [[True], [False], [[]], ["0"]]


class GreatestIn(unittest.TestCase, Refusals):
    def test_all_blocks(self):
        for kind in reference.all_kinds():
            for block in blocks_of(kind):
                if is_endless(kind, block):
                    self.assertIsNone(greatest_in(kind, block))
                    self.assertIsNone(how_many_in(kind, block))
                elif len(block) <= 4:
                    found = made_in(kind, block)
                    most = max(found.values())
                    told = [list(order) for order, many in found.items() if many == most]
                    self.assertEqual([greatest_in(kind, block)], told, (kind.name(), block))
                    self.assertEqual(how_many_in(kind, block), len(found), (kind.name(), block))

    def test_whole_kinds(self):
        for kind in reference.all_kinds():
            steps = list(range(kind.steps()))
            self.assertEqual(greatest_in(kind, steps), greatest(kind))
        self.assertEqual(how_many_in(Kind("plain", 7), [0, 1, 2, 3, 4, 5]), 5040)
        self.assertEqual(how_many_in(Kind("mirror", 5), [0, 1, 2, 3, 4]), 3840)
        self.assertEqual(how_many_in(Kind("plain", 7), [0, 1, 3, 4, 5]), 144)

    def test_rings_around_the_end(self):
        self.assertEqual(greatest_in(Kind("ring", 2), [1]), [-1, 2])
        self.assertEqual(how_many_in(Kind("ring", 5), [0, 1, 3, 4]), 120)
        self.assertEqual(how_many_in(Kind("ring", 5), [0, 2, 4]), 12)
        self.assertEqual(how_many_in(Kind("ring", 2), [0, 1]), None)

    def test_empty_block(self):
        for kind in reference.all_kinds():
            self.assertEqual(greatest_in(kind, []), kind.start())
            self.assertEqual(how_many_in(kind, []), 1)

    def test_wrong_arguments(self):
        for kind, _, _ in GOOD:
            further = [("block", wrong) for wrong in wrong_blocks(kind)]
            for function in (greatest_in, how_many_in):
                self.assert_refusals(function, kind, [("kind", kind, *KIND), ("block", [0], *BLOCK)], further)

    def test_no_block_of_the_least_plain_kind_but_the_empty_one(self):
        with self.assertRaises(InvalidList):
            greatest_in(Kind("plain", 1), [0])
        self.assertEqual(greatest_in(Kind("plain", 1), []), [0])


class StepsIn(unittest.TestCase, Refusals):
    def test_orders(self):
        for kind in reference.all_kinds():
            for _, order, row in reference.orders_up_to(kind, 6)[:400]:
                self.assertEqual(steps_in(kind, order), sorted(set(row)))

    def test_great_orders(self):
        for size in range(2, 6):
            self.assertEqual(steps_in(Kind("ring", size), ring_with(size, 60)), list(range(size)))
        for kind in reference.all_kinds():
            self.assertEqual(steps_in(kind, kind.start()), [])
            if kind.name() != "ring":
                self.assertEqual(steps_in(kind, greatest(kind)), list(range(kind.steps())))

    def test_wrong_arguments(self):
        for kind, order, _ in GOOD:
            further = [("order", wrong) for wrong in wrong_orders(kind)]
            self.assert_refusals(steps_in, kind, [("kind", kind, *KIND), ("order", order, *ORDER)], further)


class Parted(unittest.TestCase, Refusals):
    def check(self, kind, order, block):
        told = parted(kind, order, block)
        self.assertIs(type(told), tuple)
        free, inner = told
        self.assertTrue(is_order(kind, free) and is_order(kind, inner))
        row = reference.down(kind, inner)
        self.assertTrue(set(row) <= set(block))
        self.assertEqual(reference.row_done(kind, free, row), order)
        self.assertEqual(len(reference.down(kind, free)) + len(row), len(reference.down(kind, order)))
        self.assertFalse([step for step in block if step in reference.falls_of(kind, free)])

    def test_orders_and_all_blocks(self):
        for kind in reference.all_kinds():
            for _, order, _ in reference.orders_up_to(kind, 5)[:40]:
                for block in blocks_of(kind):
                    self.check(kind, order, block)

    def test_great_orders(self):
        for size in range(2, 6):
            kind, order = Kind("ring", size), ring_with(size, 60)
            for block in blocks_of(kind):
                self.check(kind, order, block)
            self.assertEqual(parted(kind, order, list(range(size))), (kind.start(), order))
        for kind in reference.all_kinds():
            if kind.name() != "ring":
                for block in blocks_of(kind):
                    self.check(kind, greatest(kind), block)
                    self.assertEqual(parted(kind, greatest(kind), block)[1], greatest_in(kind, block))

    def test_empty_block(self):
        for kind, order, _ in GOOD:
            self.assertEqual(parted(kind, order, []), (order, kind.start()))

    def test_wrong_arguments(self):
        for kind, order, _ in GOOD:
            further = [("order", wrong) for wrong in wrong_orders(kind)]
            further += [("block", wrong) for wrong in wrong_blocks(kind)]
            self.assert_refusals(
                parted, kind, [("kind", kind, *KIND), ("order", order, *ORDER), ("block", [0], *BLOCK)], further)


if __name__ == "__main__":
    unittest.main()
