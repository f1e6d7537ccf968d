"""Point 46: standings by their number."""

import unittest

from seamlayers.errors import InvalidKind, InvalidNumber, InvalidOrder, InvalidStanding
from seamlayers.kinds import Kind
from seamlayers.standcounts import how_many_standings
from seamlayers.standings import whole
from seamlayers.standnumbers import next_standing, standing_number, standing_numbered

from tests import reference, standreference
from tests.support import Refusals, judge_kind, judge_order, judge_standing
from tests.test_orders import GOOD, wrong_orders
from tests.test_standcounts import few_layers, great, tried, walked
from tests.test_standings import wrong_standings

KIND = InvalidKind, judge_kind
ORDER = InvalidOrder, judge_order
STANDING = InvalidStanding, judge_standing


def judge_layers(_kind, value):
    return type(value) is int and 1 <= value <= 8


class Numbers(unittest.TestCase, Refusals):
    def test_against_a_walk(self):
        for kind in reference.all_kinds():
            for order in tried(kind):
                for layers in few_layers(kind, order, 1200)[1:]:
                    there = sorted(one for one, told in walked(kind, order, layers) if told == order)
                    for number, one in list(enumerate(there))[::1 + len(there) // 60]:
                        self.assertEqual(standing_number(kind, one), number)
                        self.assertEqual(standing_numbered(kind, layers, order, number), one)
                        further = there[number + 1] if number + 1 < len(there) else None
                        self.assertEqual(next_standing(kind, one), further)
                    self.assertIsNone(next_standing(kind, there[-1]))
                    self.assert_number_refused(kind, layers, order, len(there))

    def assert_number_refused(self, kind, layers, order, number):
        with self.assertRaises(InvalidNumber) as caught:
            standing_numbered(kind, layers, order, number)
        self.assertIs(caught.exception.value, number)

    def test_one_after_the_other(self):
        for kind, order, layers in ((Kind("plain", 3), [2, 1, 0], 3), (Kind("mirror", 2), [-2, -1], 2),
                                    (Kind("ring", 2), [-2, 3], 4), (Kind("ring", 3), [-1, 0, 4], 4)):
            one = standing_numbered(kind, layers, order, 0)
            many = 0
            while one is not None:
                self.assertEqual((standing_number(kind, one), standreference.whole(kind, one)), (many, order))
                many += 1
                further = next_standing(kind, one)
                self.assertTrue(further is None or further > one)
                one = further
            self.assertEqual(many, how_many_standings(kind, layers, order))

    def test_first_and_last_of_eight_layers(self):
        for kind in reference.all_kinds():
            for order in tried(kind) + great(kind):
                for layers in (1, 2, 8):
                    many = how_many_standings(kind, layers, order)
                    for number in sorted({0, many // 2, many - 1}):
                        one = standing_numbered(kind, layers, order, number)
                        self.assertEqual((len(one), whole(kind, one)), (layers, order))
                        self.assertEqual(standing_number(kind, one), number)
                        further = None if number == many - 1 else standing_numbered(kind, layers, order, number + 1)
                        self.assertEqual(next_standing(kind, one), further)
                    self.assert_number_refused(kind, layers, order, many)
                    self.assert_number_refused(kind, layers, order, 10 ** 30 - 1)

    def test_one_layer_and_the_start(self):
        for kind in reference.all_kinds():
            for order in tried(kind) + great(kind):
                self.assertEqual(standing_numbered(kind, 1, order, 0), [order])
                self.assertEqual([standing_number(kind, [order]), next_standing(kind, [order])], [0, None])
                self.assert_number_refused(kind, 1, order, 1)
            for layers in (1, 4, 8):
                one = [kind.start()] * layers
                self.assertEqual(standing_numbered(kind, layers, kind.start(), 0), one)
                self.assertEqual([standing_number(kind, one), next_standing(kind, one)], [0, None])
                self.assert_number_refused(kind, layers, kind.start(), 1)

    def test_no_layers_and_nine(self):
        for kind, order, _ in GOOD:
            for wrong in (0, 9, -1, True, None, "1", 10 ** 30 - 1):
                for behind in (order, None):
                    with self.assertRaises(InvalidNumber) as caught:
                        standing_numbered(kind, wrong, behind, 0)
                    self.assertIs(caught.exception.value, wrong)

    def test_wrong_arguments(self):
        for kind, order, _ in GOOD:
            many = how_many_standings(kind, 2, order)
            told = [("kind", kind, *KIND), ("layers", 2, InvalidNumber, judge_layers), ("order", order, *ORDER),
                    ("number", 0, InvalidNumber, lambda kind, value: type(value) is int and 0 <= value < many)]
            further = [("order", wrong) for wrong in wrong_orders(kind)] + [("number", many), ("number", -1)]
            self.assert_refusals(standing_numbered, kind, told, further)
            told = [("kind", kind, *KIND), ("standing", [order, kind.start()], *STANDING)]
            further = [("standing", wrong) for wrong in wrong_standings(kind)]
            for function in (standing_number, next_standing):
                self.assert_refusals(function, kind, told, further)


if __name__ == "__main__":
    unittest.main()
