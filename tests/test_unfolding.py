"""Point 22: mirror orders as plain orders of twice the size, plain orders as ring orders."""

import itertools
import unittest

from seamlayers.blocks import steps_in
from seamlayers.errors import InvalidNumber, InvalidOrder
from seamlayers.greedy import greedy
from seamlayers.kinds import Kind
from seamlayers.orders import crossings, falls, product
from seamlayers.unfolding import folded, unfolded

from tests import reference
from tests.support import Refusals, judge_order
from tests.test_orders import wrong_orders


def mirror_orders(size):
    found = [[]]
    for _ in range(size):
        found = [one + [item] for one in found for item in range(-size, size + 1)
                 if item and item not in one and -item not in one]
    return found


def ranks(order):
    """The ranks of the items from the last to the first with their signs changed, and then from the first."""
    items = [-item for item in order[::-1]] + list(order)
    return [sorted(items).index(item) for item in items]


class Unfolded(unittest.TestCase, Refusals):
    def test_all_orders(self):
        for size, many in ((1, 2), (2, 8), (3, 48)):
            self.assertEqual(len(mirror_orders(size)), many)
            for order in mirror_orders(size):
                self.assertEqual(unfolded(order, size), ranks(order))
                self.assertEqual(folded(ranks(order), size), order)

    def test_crossings(self):
        for size in (1, 2, 3):
            mirror, plain = Kind("mirror", size), Kind("plain", 2 * size)
            for order in mirror_orders(size):
                below = len([item for item in order if item < 0])
                self.assertEqual(crossings(plain, unfolded(order, size)), 2 * crossings(mirror, order) - below)

    def test_products_and_greedy_products(self):
        for size in (1, 2, 3):
            mirror, plain = Kind("mirror", size), Kind("plain", 2 * size)
            for one, other in itertools.product(mirror_orders(size), repeat=2):
                both = unfolded(one, size), unfolded(other, size)
                self.assertEqual(unfolded(product(mirror, one, other), size), product(plain, *both))
                self.assertEqual(unfolded(greedy(mirror, one, other), size), greedy(plain, *both))

    def test_all_orders_that_fold_and_all_others(self):
        for size in (1, 2, 3):
            told = {tuple(ranks(order)): order for order in mirror_orders(size)}
            for order in itertools.permutations(range(2 * size)):
                self.assertEqual(folded(list(order), size), told.get(order))

    def test_new_lists(self):
        for order in ([1], [-2, 1], [3, -1, 2]):
            before, size = list(order), len(order)
            first = unfolded(order, size)
            first.append(9)
            self.assertEqual([order, unfolded(order, size)], [before, ranks(before)])
            given = ranks(before)
            back = folded(given, size)
            back.append(9)
            self.assertEqual([given, folded(given, size)], [ranks(before), before])

    def test_wrong_arguments(self):
        for size, order in ((1, [-1]), (2, [-2, 1]), (3, [3, -1, 2])):
            for function, kind, good in ((unfolded, Kind("mirror", size), order),
                                         (folded, Kind("plain", 2 * size), ranks(order))):
                def turned(size, order, function=function):
                    return function(order, size)
                told = [("size", size, InvalidNumber, lambda kind, value: type(value) is int and 1 <= value <= 3),
                        ("order", good, InvalidOrder, judge_order)]
                sizes = [("size", wrong) for wrong in (0, 4, -1, True, "1", [1], 1 << 90)]
                self.assert_refusals(turned, kind, told, sizes + [("order", wrong) for wrong in wrong_orders(kind)])

    def test_orders_of_other_sizes(self):
        for size in (1, 2, 3):
            for other in (1, 2, 3, 4, 5):
                if other != size:
                    for function, order in ((unfolded, Kind("mirror", other).start()),
                                            (folded, list(range(2 * other)))):
                        with self.assertRaises(InvalidOrder) as caught:
                            function(order, size)
                        self.assertIs(caught.exception.value, order)

    def test_arguments_by_name(self):
        self.assertEqual(unfolded(order=[-2, 1], size=2), [1, 3, 0, 2])
        self.assertEqual(folded(size=2, order=[1, 3, 0, 2]), [-2, 1])
        for size in (0, 4):
            for order in ([1], [], list(range(2 * size)), None):
                for function in (unfolded, folded):
                    with self.assertRaises(InvalidNumber) as caught:
                        function(order, size)
                    self.assertEqual(caught.exception.value, size)


class PlainInRing(unittest.TestCase):
    def test_crossings_falls_and_products(self):
        for size in (2, 3, 4, 5):
            plain, ring = Kind("plain", size), Kind("ring", size)
            told = [order for _, order, _ in reference.orders_up_to(plain, 10)]
            for order in told:
                self.assertEqual(crossings(ring, order), crossings(plain, order))
                self.assertEqual(falls(ring, order), falls(plain, order))
                self.assertNotIn(size - 1, steps_in(ring, order))
            for one, other in itertools.product(told[::4], told[::3]):
                self.assertEqual(product(ring, one, other), product(plain, one, other))
                self.assertEqual(greedy(ring, one, other), greedy(plain, one, other))


if __name__ == "__main__":
    unittest.main()
