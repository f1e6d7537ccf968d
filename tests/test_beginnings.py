"""Points 39 to 41: beginnings and endings, what two orders have in common, and rounds."""

import unittest

from seamlayers.beginnings import apart, beginnings, begins, ends, greatest_beginning, greatest_ending
from seamlayers.beginnings import how_many_beginnings, is_apart, is_round, least_ended, least_going_on, rest
from seamlayers.beginnings import rest_ahead, round_of
from seamlayers.errors import InvalidKind, InvalidOrder, TooMany
from seamlayers.kinds import Kind
from seamlayers.orders import crossings, greatest, is_order

from tests import beginreference, reference, standreference
from tests.support import Refusals, any_values, judge_kind, judge_order
from tests.test_beneath import great_orders, some_orders
from tests.test_orders import GOOD, wrong_orders

KIND = InvalidKind, judge_kind
ORDER = InvalidOrder, judge_order
FAR = 10 ** 29
RINGS = [Kind("ring", size) for size in (2, 3, 4, 5)]
TWO = [begins, ends, rest, rest_ahead, apart, greatest_beginning, greatest_ending, least_going_on, least_ended, round_of]


def pairs_tried(kind):
    """Pairs of orders: all of few crossings, some that begin or end one another, and great ones."""
    few = some_orders(kind, 3)[:24]
    told = [(one, other) for one in few for other in few]
    great = great_orders(kind)[:5]
    told += [(one, other) for one in great for other in great]
    chance = reference.Chance(7 * kind.size())
    for _ in range(4):
        row = chance.least_row(kind, 12)
        whole = reference.row_done(kind, kind.start(), row)
        for at in (0, len(row) // 2, len(row)):
            begun = reference.row_done(kind, kind.start(), row[:at])
            ended = reference.row_done(kind, kind.start(), row[at:])
            told += [(begun, whole), (whole, begun), (ended, whole), (begun, ended)]
    return told


class Begins(unittest.TestCase, Refusals):
    def test_beginnings_and_rests(self):
        for kind in reference.all_kinds():
            for one, other in pairs_tried(kind):
                there = tuple(one) in beginreference.begun_by(kind, other)
                self.assertIs(begins(kind, one, other), there)
                self.assertEqual(rest(kind, one, other), beginreference.rest(kind, one, other) if there else None)
                if there:
                    behind = rest(kind, one, other)
                    self.assertEqual(beginreference.product(kind, one, behind), other)
                    self.assertEqual(crossings(kind, one) + crossings(kind, behind), crossings(kind, other))
                    self.assertIs(ends(kind, behind, other), True)
                    self.assertEqual(rest_ahead(kind, behind, other), one)

    def test_endings_and_what_is_ahead(self):
        for kind in reference.all_kinds():
            for one, other in pairs_tried(kind):
                there = tuple(one) in beginreference.ended_by(kind, other)
                self.assertIs(ends(kind, one, other), there)
                front = beginreference.rest_ahead(kind, one, other) if there else None
                self.assertEqual(rest_ahead(kind, one, other), front)

    def test_the_start_and_equal_orders(self):
        for kind in reference.all_kinds():
            start = kind.start()
            for order in some_orders(kind, 3) + great_orders(kind):
                self.assertEqual([begins(kind, start, order), ends(kind, start, order)], [True, True])
                self.assertEqual([begins(kind, order, order), ends(kind, order, order)], [True, True])
                self.assertEqual([rest(kind, start, order), rest_ahead(kind, start, order)], [order, order])
                self.assertEqual([rest(kind, order, order), rest_ahead(kind, order, order)], [start, start])
                self.assertIs(begins(kind, order, start), order == start)
                self.assertIs(ends(kind, order, start), order == start)
                self.assertEqual([apart(kind, start, order), apart(kind, order, order)], [None, None])

    def test_beneath_but_neither_begins(self):
        plain = Kind("plain", 3)
        self.assertEqual([begins(plain, [0, 2, 1], [1, 2, 0]), ends(plain, [1, 0, 2], [1, 2, 0])], [False, False])
        self.assertEqual([rest(plain, [0, 2, 1], [1, 2, 0]), rest_ahead(plain, [1, 0, 2], [1, 2, 0])], [None, None])
        ring = Kind("ring", 2)
        self.assertEqual([begins(ring, [-1, 2], [-58, 59]), begins(ring, [-58, 59], [-1, 2])], [False, False])
        self.assertEqual([begins(ring, [1, 0], [-58, 59]), begins(ring, [-58, 59], [1, 0])], [True, False])
        self.assertEqual([ends(ring, [1, 0], [-58, 59]), rest_ahead(ring, [1, 0], [-58, 59])], [False, None])

    def test_apart(self):
        for kind in reference.all_kinds():
            for one, other in pairs_tried(kind):
                found = apart(kind, one, other)
                if begins(kind, one, other):
                    self.assertIsNone(found)
                    continue
                self.assertEqual((type(found), len(found)), (tuple, 2))
                low, high = found
                self.assertTrue(all(beginreference.is_number(kind, number) for number in found) and low < high)
                self.assertTrue(beginreference.crossed(kind, one, low, high))
                self.assertFalse(beginreference.crossed(kind, other, low, high))
                self.assertIs(is_apart(kind, one, other, found), True)

    def test_is_apart_of_all_numbers(self):
        for kind in reference.all_kinds():
            told = beginreference.numbers_of(kind, kind.size())
            for one, other in pairs_tried(kind)[::9]:
                for low in told:
                    for high in told:
                        there = low < high and beginreference.crossed(kind, one, low, high)
                        there = there and not beginreference.crossed(kind, other, low, high)
                        self.assertIs(is_apart(kind, one, other, (low, high)), there)

    def test_is_apart_of_any_value(self):
        for kind, one, _ in GOOD:
            start = kind.start()
            low, high = apart(kind, one, start)
            self.assertIs(is_apart(kind, one, start, (low, high)), True)
            if kind.name() == "ring":
                for rounds in (FAR, -FAR):
                    moved = low + rounds * kind.size(), high + rounds * kind.size()
                    self.assertIs(is_apart(kind, one, start, moved), True)
            else:
                self.assertIs(is_apart(kind, one, start, (low, kind.size() + 1)), False)
            more = [(high, low), (low, low), [low, high], (low, high, high), (low,), (str(low), high), (low, None),
                    (low, [high]), (0.5, high), ((low, high),), (-FAR, FAR), (-9, high), (low, 9)]
            for value in more + [value for value in any_values() if not isinstance(value, tuple)]:
                if kind.name() != "ring" or value not in [(-9, high)]:
                    self.assertIs(is_apart(kind, one, start, value), False, value)
        # A Boolean is no number, though it is equal to one.
        self.assertIs(is_apart(Kind("plain", 2), [1, 0], [0, 1], (0, 1)), True)
        self.assertIs(is_apart(Kind("plain", 2), [1, 0], [0, 1], (False, True)), False)
        self.assertIs(is_apart(Kind("plain", 2), [1, 0], [0, 1], (0, True)), False)
        self.assertIs(is_apart(Kind("mirror", 1), [-1], [1], (-1, True)), False)

    def test_wrong_arguments(self):
        for kind, one, other in GOOD:
            further = [(name, wrong) for wrong in wrong_orders(kind) for name in ("one", "other")]
            told = [("kind", kind, *KIND), ("one", one, *ORDER), ("other", other, *ORDER)]
            for function in TWO:
                self.assert_refusals(function, kind, told, further)
            for function in (is_apart, is_round):
                self.assert_refusals(function, kind, told + [("value", None, None, None)], further)


class InCommon(unittest.TestCase, Refusals):
    def check_greatest(self, kind, found, both):
        """Whether an order is the only one of some with the most crossings, and all others begin or end it."""
        self.assertIn(tuple(found), both)
        most = beginreference.many(kind, found)
        self.assertEqual([one for one in both if beginreference.many(kind, one) >= most], [tuple(found)])

    def test_greatest_beginnings_and_endings(self):
        for kind in reference.all_kinds():
            for one, other in pairs_tried(kind)[::4]:
                both = beginreference.begun_by(kind, one) & beginreference.begun_by(kind, other)
                found = greatest_beginning(kind, one, other)
                self.check_greatest(kind, found, both)
                self.assertEqual(both, beginreference.begun_by(kind, found))
                both = beginreference.ended_by(kind, one) & beginreference.ended_by(kind, other)
                found = greatest_ending(kind, one, other)
                self.check_greatest(kind, found, both)
                self.assertEqual(both, beginreference.ended_by(kind, found))

    def test_with_the_start_and_equal_orders(self):
        for kind in reference.all_kinds():
            for order in great_orders(kind):
                for function in (greatest_beginning, greatest_ending):
                    self.assertEqual(function(kind, order, order), order)
                    self.assertEqual(function(kind, order, kind.start()), kind.start())
                    self.assertEqual(function(kind, kind.start(), order), kind.start())
                for function in (least_going_on, least_ended):
                    self.assertEqual(function(kind, order, order), order)
                    self.assertEqual(function(kind, order, kind.start()), order)
                    self.assertEqual(function(kind, kind.start(), order), order)

    def test_beginnings(self):
        for kind in reference.all_kinds():
            for order in some_orders(kind, 4)[:30] + great_orders(kind)[1:4]:
                there = sorted(list(one) for one in beginreference.begun_by(kind, order))
                self.assertEqual(how_many_beginnings(kind, order), len(there))
                if len(there) <= 1000:
                    self.assertEqual(beginnings(kind, order), there)
                else:
                    self.assert_too_many(kind, order)

    def assert_too_many(self, kind, order):
        with self.assertRaises(TooMany) as caught:
            beginnings(kind, order)
        self.assertEqual(caught.exception.value, 1001)

    def test_a_thousand_beginnings_and_more(self):
        for kind, order, many in ((Kind("ring", 4), [-9, 29, 8, -22], 999),
                                  (Kind("ring", 5), [-2, -18, -6, 20, 16], 1000)):
            found = beginnings(kind, order)
            self.assertEqual([len(found), how_many_beginnings(kind, order)], [many, many])
            self.assertEqual(found, sorted(list(one) for one in beginreference.begun_by(kind, order)))
        for kind, order, many in ((Kind("ring", 4), [29, 7, -24, -6], 1001),
                                  (Kind("plain", 7), [6, 5, 4, 3, 2, 1, 0], 5040),
                                  (Kind("mirror", 5), [-1, -2, -3, -4, -5], 3840)):
            self.assertEqual(how_many_beginnings(kind, order), many)
            self.assert_too_many(kind, order)

    def test_beginnings_of_the_least_kinds(self):
        self.assertEqual(beginnings(Kind("plain", 1), [0]), [[0]])
        self.assertEqual(how_many_beginnings(Kind("plain", 1), [0]), 1)
        self.assertEqual(beginnings(Kind("mirror", 1), [-1]), [[-1], [1]])
        self.assertEqual(beginnings(Kind("ring", 2), [3, -2]), [[-2, 3], [0, 1], [1, 0], [3, -2]])

    def test_wrong_arguments(self):
        for kind, order, _ in GOOD:
            further = [("order", wrong) for wrong in wrong_orders(kind)]
            told = [("kind", kind, *KIND), ("order", order, *ORDER)]
            for function in (beginnings, how_many_beginnings):
                self.assert_refusals(function, kind, told, further)


class GoingOn(unittest.TestCase):
    def check_least(self, kind, found, one, other, begun):
        """Whether both begin, or end, an order, and none that is one fall, or head, less."""
        there = begun(kind, found)
        self.assertTrue(tuple(one) in there and tuple(other) in there)
        for less in there:
            if less != tuple(found) and beginreference.many(kind, less) == beginreference.many(kind, found) - 1:
                below = begun(kind, list(less))
                self.assertFalse(tuple(one) in below and tuple(other) in below)

    def test_finite_kinds_always_go_on(self):
        for kind in reference.all_kinds():
            if kind.name() != "ring":
                for one, other in pairs_tried(kind)[::12]:
                    self.check_least(kind, least_going_on(kind, one, other), one, other, beginreference.begun_by)
                    self.check_least(kind, least_ended(kind, one, other), one, other, beginreference.ended_by)
                    self.assertIsNone(round_of(kind, one, other))

    def test_all_orders_of_small_kinds(self):
        for kind in (Kind("plain", 3), Kind("plain", 4), Kind("mirror", 2), Kind("mirror", 3)):
            every = {tuple(order): many for many, order, _ in reference.orders_up_to(kind, 30)}
            begun = {order: beginreference.begun_by(kind, list(order)) for order in every}
            ended = {order: beginreference.ended_by(kind, list(order)) for order in every}
            told = list(every)
            for one in told[::3]:
                for other in told[1::4]:
                    for function, below in ((least_going_on, begun), (least_ended, ended)):
                        above = [order for order in told if one in below[order] and other in below[order]]
                        least = min(above, key=lambda order: every[order])
                        self.assertEqual(function(kind, list(one), list(other)), list(least))
                        self.assertTrue(all(least in below[order] for order in above))

    def test_rings_against_all_orders_up_to_some_crossings(self):
        for size, most, few in ((2, 12, 5), (3, 9, 4), (4, 7, 3), (5, 6, 2)):
            kind = Kind("ring", size)
            every = reference.orders_up_to(kind, most)
            begun = {tuple(order): beginreference.begun_by(kind, order) for _, order, _ in every}
            tried = [order for many, order, _ in every if many <= few][:60]
            for one in tried[::2]:
                for other in tried[1::3]:
                    above = [order for order in begun if tuple(one) in begun[order] and tuple(other) in begun[order]]
                    found = least_going_on(kind, one, other)
                    self.assertEqual(found is None, beginreference.has_round(kind, one, other))
                    if found is None:
                        self.assertEqual(above, [])
                    elif beginreference.many(kind, found) <= most:
                        self.assertEqual(tuple(found), min(above, key=lambda order: beginreference.many(kind, order)))
                        self.assertTrue(all(tuple(found) in begun[order] for order in above))
                    else:
                        self.assertEqual(above, [])
                        self.check_least(kind, found, one, other, beginreference.begun_by)

    def test_great_rings(self):
        for kind in RINGS:
            some = 0
            for one, other in pairs_tried(kind):
                found = least_going_on(kind, one, other)
                self.assertEqual(found is None, beginreference.has_round(kind, one, other))
                turned = standreference.turned(kind, one), standreference.turned(kind, other)
                ended = least_ended(kind, *turned)
                self.assertEqual(ended, None if found is None else standreference.turned(kind, found))
                if found is not None and is_order(kind, found):
                    self.assertTrue(begins(kind, one, found) and begins(kind, other, found))
                    for fall in reference.falls_of(kind, found):
                        less = reference.step_done(kind, found, fall)
                        self.assertFalse(begins(kind, one, less) and begins(kind, other, less))
                    some += found not in (one, other)
            self.assertTrue(some or kind.size() == 2)

    def test_it_begins_what_both_begin(self):
        for kind in RINGS[1:]:
            chance = reference.Chance(kind.size())
            for _ in range(40):
                whole = chance.order(kind, 40)
                told = sorted(beginreference.begun_by(kind, whole))
                one, other = (list(told[chance.below(len(told))]) for _ in range(2))
                found = least_going_on(kind, one, other)
                self.assertIsNone(round_of(kind, one, other))
                self.assertIn(tuple(found), told)
                self.assertTrue(begins(kind, one, found) and begins(kind, other, found) and begins(kind, found, whole))

    def test_more_crossings_than_can_be_handed_in(self):
        for kind, one, other, many in ((Kind("ring", 3), [11, -42, 34], [40, -4, -33], 66),
                                       (Kind("ring", 4), [-12, -25, 5, 38], [4, 26, -37, 13], 71)):
            found = least_going_on(kind, one, other)
            self.assertEqual(beginreference.many(kind, found), many)
            self.check_least(kind, found, one, other, beginreference.begun_by)
            self.assertIs(is_order(kind, found), False)


class Rounds(unittest.TestCase):
    def test_rounds_that_are_found(self):
        for kind in RINGS:
            for one, other in pairs_tried(kind):
                found = round_of(kind, one, other)
                self.assertEqual(found is not None, beginreference.has_round(kind, one, other))
                self.assertEqual(found is None, least_going_on(kind, one, other) is not None)
                if found is not None:
                    self.assertIs(type(found), list)
                    self.assertTrue(beginreference.is_round(kind, one, other, found))
                    self.assertIs(is_round(kind, one, other, found), True)

    def test_all_short_lists(self):
        for kind in RINGS[:3]:
            for one, other in pairs_tried(kind)[::40]:
                told = [[number] for number in range(-1, kind.size())]
                for _ in range(3):
                    for value in told:
                        self.assertIs(is_round(kind, one, other, value),
                                      beginreference.is_round(kind, one, other, value))
                    told = [value + [number] for value in told for number in range(value[-1] - 1, value[-1] + 5)][::2]

    def test_moved_and_longer_rounds(self):
        ring = Kind("ring", 3)
        one, other = [1, 2, 0], [-1, 1, 3]
        for value in ([0, 2, 3], [3, 5, 6], [-3, -1, 0], [2, 3, 5], [0, 2, 3, 5, 6], [0, 2, 3, 5, 6, 8, 9],
                      [3 * FAR, 3 * FAR + 2, 3 * FAR + 3], [-3 * FAR, 2 - 3 * FAR, 3 - 3 * FAR]):
            self.assertIs(is_round(ring, one, other, value), True, value)
            self.assertIs(is_round(ring, other, one, value), True, value)
        for value in ([0, 2], [0, 3], [0, 2, 3, 5], [2, 3], [0, 1, 3], [0], [], [0, 2, 2, 3], [3, 2, 0], [0, 0],
                      [0, 2, 6], [0, 5, 6], [1, 2, 4], [3 * FAR, 3 * FAR + 2, 3 * FAR + 4], [0, 3 * FAR]):
            self.assertIs(is_round(ring, one, other, value), False, value)

    def test_one_order_alone_has_none(self):
        for kind in RINGS:
            for order in some_orders(kind) + great_orders(kind):
                self.assertEqual([round_of(kind, order, order), round_of(kind, order, kind.start())], [None, None])

    def test_any_value(self):
        for kind, one, other in ((Kind("ring", 3), [1, 2, 0], [-1, 1, 3]), (Kind("ring", 2), [1, 0], [-1, 2])):
            good = round_of(kind, one, other)
            more = [tuple(good), [str(number) for number in good], [good], good + [None], [None] + good, good[:1],
                    [False] + good[1:], {number: number for number in good}]
            for value in any_values() + more:
                there = beginreference.is_round(kind, one, other, value)
                self.assertIs(is_round(kind, one, other, value), there, value)
        self.assertIs(is_round(Kind("ring", 2), [1, 0], [-1, 2], [0, 1, 2]), True)
        self.assertIs(is_round(Kind("ring", 2), [1, 0], [-1, 2], [False, 1, 2]), False)
        self.assertIs(is_round(Kind("ring", 2), [1, 0], [-1, 2], [0, True, 2]), False)

    def test_other_kinds_have_none(self):
        for kind in reference.all_kinds():
            if kind.name() != "ring":
                top = greatest(kind)
                for value in ([0, 2, 3], [0, 1], [-1, 1], [0, kind.size()], list(range(kind.size() + 1)), None, []):
                    self.assertIs(is_round(kind, top, top, value), False)
                self.assertIsNone(round_of(kind, top, top))
                told = [[low, middle, low + kind.size()] for low in range(-6, 7) for middle in range(-6, 7)]
                for one, other in pairs_tried(kind)[::20]:
                    self.assertFalse([value for value in told if is_round(kind, one, other, value)])


if __name__ == "__main__":
    unittest.main()
