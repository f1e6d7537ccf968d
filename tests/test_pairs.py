"""Point 38: crossed pairs of numbers of the long row."""

import unittest

from seamlayers.errors import InvalidKind, InvalidNumber, InvalidOrder
from seamlayers.kinds import Kind
from seamlayers.pairs import pair_crossed
from seamlayers.rows import crossed_in

from tests import beginreference, reference
from tests.support import Refusals, judge_kind, judge_order
from tests.test_beneath import great_orders, some_orders
from tests.test_orders import GOOD, wrong_orders

FAR = 10 ** 29


def judge_number(kind, value):
    return beginreference.is_number(kind, value)


class Pairs(unittest.TestCase, Refusals):
    def test_all_numbers(self):
        for kind in reference.all_kinds():
            for order in some_orders(kind)[:40] + great_orders(kind)[:2]:
                told = beginreference.numbers_of(kind, 2 * kind.size())
                for low in told:
                    for high in told:
                        if low < high:
                            found = beginreference.crossed(kind, order, low, high)
                            self.assertIs(pair_crossed(kind, order, low, high), found)

    def test_what_rows_cross(self):
        for kind in reference.all_kinds():
            for order in some_orders(kind) + great_orders(kind):
                for low, high in crossed_in(kind, order):
                    self.assertIs(pair_crossed(kind, order, low, high), True)
                    if kind.name() == "mirror":
                        self.assertIs(pair_crossed(kind, order, -high, -low), True)
                self.assertEqual(len(crossed_in(kind, order)), len(reference.down(kind, order)))

    def test_the_start_crosses_nothing(self):
        for kind in reference.all_kinds():
            told = beginreference.numbers_of(kind, 9)
            for low in told:
                self.assertFalse([high for high in told if low < high and pair_crossed(kind, kind.start(), low, high)])

    def test_numbers_of_a_ring_that_are_far_out_and_far_apart(self):
        for size in (2, 3, 4, 5):
            kind = Kind("ring", size)
            for order in great_orders(kind):
                for low, high in crossed_in(kind, order):
                    for rounds in (FAR, -FAR, 1, -1):
                        self.assertIs(pair_crossed(kind, order, low + rounds * size, high + rounds * size), True)
                self.assertIs(pair_crossed(kind, order, -FAR, FAR), False)
                self.assertIs(pair_crossed(kind, order, 0, 10 ** 30 - 1), False)
        order = [60, -59]
        self.assertEqual([pair_crossed(Kind("ring", 2), order, low, low + 119) for low in (-59, -1, FAR + 1)], [True] * 3)
        self.assertEqual([pair_crossed(Kind("ring", 2), order, low, low + 121) for low in (-59, -1, FAR + 1)], [False] * 3)
        self.assertEqual([pair_crossed(Kind("ring", 2), order, low, low + 2) for low in (0, 1, -7)], [False] * 3)

    def test_the_least_kinds(self):
        self.assertEqual([pair_crossed(Kind("mirror", 1), [item], -1, 1) for item in (1, -1)], [False, True])
        with self.assertRaises(InvalidNumber) as caught:
            pair_crossed(Kind("plain", 1), [0], 0, 1)
        self.assertEqual(caught.exception.value, 1)

    def test_no_number_of_the_long_row(self):
        for kind, low, high, wrong in ((Kind("plain", 3), -1, 1, -1), (Kind("plain", 3), 3, 4, 3),
                                       (Kind("plain", 3), 0, 3, 3), (Kind("plain", 3), 2, 3, 3),
                                       (Kind("mirror", 2), 0, 1, 0), (Kind("mirror", 2), -1, 0, 0),
                                       (Kind("mirror", 2), -3, 1, -3), (Kind("mirror", 2), 1, 3, 3),
                                       (Kind("plain", 3), 1, 1, 1), (Kind("plain", 3), 2, 0, 0),
                                       (Kind("mirror", 2), 2, -2, -2), (Kind("ring", 3), 4, 4, 4),
                                       (Kind("ring", 3), 4, 3, 3), (Kind("ring", 3), FAR, -FAR, -FAR)):
            with self.assertRaises(InvalidNumber) as caught:
                pair_crossed(kind, kind.start(), low, high)
            self.assertEqual(caught.exception.value, wrong)

    def test_wrong_arguments(self):
        for kind, order, _ in GOOD:
            low, high = (1, 2) if kind.name() == "mirror" else (0, 1)
            further = [("order", wrong) for wrong in wrong_orders(kind)]
            told = [("kind", kind, InvalidKind, judge_kind), ("order", order, InvalidOrder, judge_order),
                    ("low", low, InvalidNumber, judge_number),
                    ("high", high, InvalidNumber, lambda kind, value: judge_number(kind, value) and value > low)]
            self.assert_refusals(pair_crossed, kind, told, further)


if __name__ == "__main__":
    unittest.main()
