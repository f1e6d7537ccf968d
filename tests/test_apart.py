"""Point 2: arguments are neither changed nor kept, results are new, equal calls tell equal things."""

import unittest

from seamlayers import blocks, orders
from seamlayers.kinds import Kind, wait

from tests.support import Apart

PLAIN, WIDE, MIRROR = Kind("plain", 3), Kind("plain", 4), Kind("mirror", 2)
RING, PAIR = Kind("ring", 3), Kind("ring", 2)

ORDERS = [(PLAIN, [2, 0, 1], [1, 0, 2]), (PLAIN, [0, 1, 2], [0, 1, 2]), (WIDE, [3, 2, 1, 0], [0, 1, 2, 3]),
          (MIRROR, [-2, 1], [-1, -2]), (RING, [-1, 0, 4], [0, 1, 2]), (PAIR, [3, -2], [3, -2])]


class Calls(unittest.TestCase, Apart):
    def test_kinds(self):
        for kind in (PLAIN, WIDE, MIRROR, RING, PAIR):
            self.assert_apart(Kind.start, (kind,))
            self.assert_apart(wait, (kind, 0, 1))

    def test_orders(self):
        for kind, one, other in ORDERS:
            for function in (orders.is_order, orders.crossings, orders.falls, orders.heads, orders.opposite):
                self.assert_apart(function, (kind, one))
            for step in range(kind.steps()):
                self.assert_apart(orders.stepped, (kind, one, step))
                self.assert_apart(orders.stepped_ahead, (kind, one, step))
            self.assert_apart(orders.product, (kind, one, other))
            self.assert_apart(orders.product, (kind, other, other))
            self.assert_apart(orders.greatest, (kind,))
            for many in range(4):
                self.assert_apart(orders.how_many_orders, (kind, many))
                self.assert_apart(orders.orders_with, (kind, many))

    def test_blocks(self):
        for kind, one, _ in ORDERS:
            self.assert_apart(blocks.steps_in, (kind, one))
            for block in ([], [0], [0, 1], list(range(kind.steps()))):
                self.assert_apart(blocks.greatest_in, (kind, block))
                self.assert_apart(blocks.parted, (kind, one, block))
                self.assert_apart(blocks.how_many_in, (kind, block))

    def test_one_list_for_both_orders(self):
        for kind, one, _ in ORDERS:
            self.assert_apart(lambda kind, order: orders.product(kind, order, order), (kind, one))


if __name__ == "__main__":
    unittest.main()
