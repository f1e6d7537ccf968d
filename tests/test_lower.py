"""Points 33 to 36: steps up and down, all orders beneath one, and factors."""

import unittest

from seamlayers.beneath import is_beneath
from seamlayers.errors import InvalidKind, InvalidList, InvalidNumber, InvalidOrder
from seamlayers.kinds import Kind
from seamlayers.lower import are_factors, beneath_number, beneath_numbered, climb, factors, held_in, how_many_beneath
from seamlayers.lower import how_many_between, is_climb, next_above, next_below
from seamlayers.orders import crossings as many_crossings, greatest

from tests import reference, standreference
from tests.support import Refusals, any_values, judge_block, judge_kind, judge_order
from tests.test_beneath import beneath_greedy, great_orders, some_orders
from tests.test_blocks import blocks_of, made_in, wrong_blocks
from tests.test_orders import GOOD, ring_with, wrong_orders

KIND = InvalidKind, judge_kind
ORDER = InvalidOrder, judge_order


def beneath(kind, order):
    """All orders beneath an order, in order, by the words of point 30."""
    return sorted(list(one) for one in reference.made_by_parts(kind, reference.down(kind, order)))


def many(kind, order):
    return len(reference.down(kind, order))


def exchanged(kind, order, pairs):
    """An order with the items at the pairs of places exchanged."""
    other = {}
    for low, high in pairs:
        other.update({low: high, high: low})
    first = 1 if kind.name() == "mirror" else 0
    return [reference.item(kind, order, other.get(at, at)) for at in range(first, first + kind.size())]


def all_exchanged(kind, order):
    """All orders in which two items of the long row, with what goes with them, are exchanged, so far as places go."""
    size = kind.size()
    if kind.name() == "plain":
        return [exchanged(kind, order, [(low, high)]) for high in range(size) for low in range(high)]
    if kind.name() == "mirror":
        # The place 1 - p has the negative of the item at the place p.
        return [exchanged(kind, order, [(low, high), (1 - low, 1 - high)])
                for high in range(1, size + 1) for low in range(1 - high, high)]
    pairs = [(low, high) for low in range(size) for high in range(low + 1, low + 140) if (high - low) % size]
    return [exchanged(kind, order, [(low, high), (low - (high - low + low) // size * size, high - high // size * size)])
            for low, high in pairs]


class Next(unittest.TestCase, Refusals):
    def test_next_below(self):
        for kind in reference.all_kinds():
            for order in some_orders(kind):
                less = many(kind, order) - 1
                self.assertEqual(next_below(kind, order), [one for one in beneath(kind, order) if many(kind, one) == less])

    def test_next_above(self):
        for kind in reference.all_kinds():
            told = [level for level in reference.levels(kind, 6)]
            for here, above in zip(told, (told[1:] + [[]])[:6]):
                found = [(order, reference.made_by_parts(kind, row)) for order, row in above]
                for one, _ in here[:30]:
                    right = sorted(order for order, parts in found if tuple(one) in parts)
                    self.assertEqual(next_above(kind, one), right)

    def test_each_by_an_exchange_of_two_items(self):
        for kind in reference.all_kinds():
            for order in great_orders(kind) + some_orders(kind)[::6]:
                told = [(one, many_crossings(kind, one)) for one in all_exchanged(kind, order)
                        if reference.is_order_form(kind, one) and self.has_told_crossings(kind, one)]
                here = many(kind, order)
                self.assertEqual(next_below(kind, order), sorted(one for one, less in told if less == here - 1))
                if here < 60:
                    self.assertEqual(next_above(kind, order), sorted(one for one, more in told if more == here + 1))

    def has_told_crossings(self, kind, order):
        """Whether an order may have 60 crossings at most: so that it may be handed in."""
        if kind.name() != "ring":
            return True
        pairs = [(order[low], high) for at, high in enumerate(order) for low in range(at)]
        return sum(abs((high - low) // kind.size()) for low, high in pairs) <= 60

    def test_above_orders_with_60_crossings(self):
        for size in range(2, 6):
            kind, order = Kind("ring", size), ring_with(size, 60)
            found = next_above(kind, order)
            self.assertIn(ring_with(size, 61), found)
            self.assertEqual(found, sorted(found))
            for one in found:
                self.assertEqual(many(kind, one), 61)
                self.assertIn(tuple(order), {tuple(reference.row_done(kind, kind.start(), row[:at] + row[at + 1:]))
                                             for row in [reference.down(kind, one)] for at in range(61)})

    def test_the_ends(self):
        for kind in reference.all_kinds():
            self.assertEqual(next_below(kind, kind.start()), [])
            told = [reference.step_done(kind, kind.start(), step) for step in range(kind.steps())]
            self.assertEqual(next_above(kind, kind.start()), sorted(told))
            if kind.name() != "ring":
                self.assertEqual(next_above(kind, greatest(kind)), [])

    def test_wrong_arguments(self):
        for kind, order, _ in GOOD:
            further = [("order", wrong) for wrong in wrong_orders(kind)]
            for function in (next_below, next_above, how_many_beneath):
                self.assert_refusals(function, kind, [("kind", kind, *KIND), ("order", order, *ORDER)], further)


class Climbs(unittest.TestCase, Refusals):
    def check(self, kind, one, other, there):
        found = climb(kind, one, other)
        if not there:
            self.assertIsNone(found)
            return
        self.assertEqual([found[0], found[-1]], [one, other])
        self.assertEqual([many(kind, order) for order in found], list(range(many(kind, one), many(kind, other) + 1)))
        for low, high in zip(found, found[1:]):
            self.assertIs(is_beneath(kind, low, high), True)
        self.assertIs(is_climb(kind, one, other, found), True)

    def test_all_pairs(self):
        for kind in reference.all_kinds():
            told = some_orders(kind, 4)
            for other in told[::2]:
                found = beneath(kind, other)
                for one in told[::3] + [other]:
                    self.check(kind, one, other, one in found)

    def test_great_orders(self):
        for kind in reference.all_kinds():
            told = great_orders(kind)
            for one in told[::3] + [kind.start()]:
                for other in told[:2]:
                    self.check(kind, one, other, is_beneath(kind, one, other))

    def test_is_climb_of_pairs(self):
        for kind in (Kind("plain", 3), Kind("mirror", 2), Kind("ring", 2), Kind("ring", 3)):
            told = some_orders(kind, 4)
            for one in told:
                for other in told:
                    right = one in beneath(kind, other) and many(kind, other) == many(kind, one) + 1
                    self.assertIs(is_climb(kind, one, other, [one, other]), right)
                    self.assertIs(is_climb(kind, one, other, [one]), one == other)
                    self.assertIs(is_climb(kind, one, other, [one, one, other]), False)

    def test_is_climb_of_near_misses(self):
        kind, right = Kind("plain", 3), [[0, 1, 2], [1, 0, 2], [1, 2, 0], [2, 1, 0]]
        self.assertIs(is_climb(kind, right[0], right[3], right), True)
        for wrong in (right[1:], right[:3], right[:1] + right[2:], right[::-1], [], tuple(right), right + [None],
                      [tuple(order) for order in right], right[:2] + [[2, 1]] + right[3:], right + right[3:],
                      right[:2] + [None] + right[3:], [right[0], [0, 2, 1], [1, 0, 2], right[3]],
                      [right[0], right[1], [0, 2, 1], right[3]]):
            self.assertIs(is_climb(kind, right[0], right[3], wrong), False, wrong)
        self.assertIs(is_climb(kind, right[0], right[3], [right[0], [0, 2, 1], [1, 2, 0], right[3]]), True)
        self.assertIs(is_climb(kind, right[1], right[1], []), False)
        self.assertIs(is_climb(Kind("plain", 3), [0, 1, 2], [1, 0, 2], [[False, True, 2], [1, 0, 2]]), False)

    def test_is_climb_of_any_value(self):
        for kind in reference.all_kinds():
            for value in any_values():
                self.assertIs(is_climb(kind, kind.start(), kind.start(), value), repr(value) == repr([kind.start()]))

    def test_wrong_arguments(self):
        for kind, one, other in GOOD:
            further = [(name, wrong) for wrong in wrong_orders(kind) for name in ("one", "other")]
            told = [("kind", kind, *KIND), ("one", one, *ORDER), ("other", other, *ORDER)]
            for function in (climb, how_many_between):
                self.assert_refusals(function, kind, told, further)
            self.assert_refusals(is_climb, kind, told + [("value", [], None, None)], further)


class AllBeneath(unittest.TestCase, Refusals):
    def test_counts_and_numbers(self):
        for kind in reference.all_kinds():
            for order in some_orders(kind)[::4] + [kind.start()]:
                told = beneath(kind, order)
                counts = [0] * (many(kind, order) + 1)
                for one in told:
                    counts[many(kind, one)] += 1
                self.assertEqual(how_many_beneath(kind, order), counts)
                for number, one in list(enumerate(told))[::3]:
                    self.assertEqual(beneath_numbered(kind, order, number), one)
                    self.assertEqual(beneath_number(kind, order, one), number)
                self.assertEqual(beneath_numbered(kind, order, len(told) - 1), told[-1])
                for wrong in (len(told), len(told) + 1, -1, 10 ** 29, True, False, None, "0", [0]):
                    with self.assertRaises(InvalidNumber) as caught:
                        beneath_numbered(kind, order, wrong)
                    self.assertIs(caught.exception.value, wrong)

    def test_all_orders_beneath_the_greatest(self):
        for kind in (Kind("plain", 4), Kind("plain", 5), Kind("mirror", 3)):
            told = sorted(order for _, order, _ in reference.orders_up_to(kind, 99))
            most = greatest(kind)
            for number in range(0, len(told), 7):
                self.assertEqual(beneath_numbered(kind, most, number), told[number])
                self.assertEqual(beneath_number(kind, most, told[number]), number)
            self.assertEqual(how_many_beneath(kind, most), [len(level) for level in reference.levels(kind, 99)])

    def test_beneath_number_of_any_value(self):
        for kind in reference.all_kinds():
            for order in (kind.start(), some_orders(kind, 3)[-1]):
                told = [repr(one) for one in beneath(kind, order)]
                for value in any_values() + wrong_orders(kind) + some_orders(kind, 2):
                    right = told.index(repr(value)) if repr(value) in told else None
                    self.assertEqual(beneath_number(kind, order, value), right, value)

    def test_orders_of_two_in_a_ring(self):
        kind = Kind("ring", 2)
        for crossings in (1, 2, 59, 60):
            self.assertEqual(how_many_beneath(kind, ring_with(2, crossings)), [1] + [2] * (crossings - 1) + [1])

    def test_between(self):
        for kind in reference.all_kinds():
            told = some_orders(kind)
            for other in told[::5]:
                found = {tuple(one): many(kind, one) for one in beneath(kind, other)}
                for one in told[::4] + [other]:
                    if tuple(one) not in found:
                        self.assertEqual(how_many_between(kind, one, other), [])
                        continue
                    counts = [0] * (many(kind, other) - many(kind, one) + 1)
                    for order in found:
                        if is_beneath(kind, one, list(order)):
                            counts[found[order] - many(kind, one)] += 1
                    self.assertEqual(how_many_between(kind, one, other), counts)
                    signed = sum(count if at % 2 == 0 else -count for at, count in enumerate(counts))
                    self.assertEqual(signed, 1 if one == other else 0)
                    if len(counts) == 3:
                        self.assertEqual(counts, [1, 2, 1])

    def test_between_an_order_and_itself_and_none(self):
        for kind in reference.all_kinds():
            row = reference.Chance(35).least_row(kind, 12)
            order = reference.row_done(kind, kind.start(), row)
            self.assertEqual(how_many_between(kind, order, order), [1])
            self.assertEqual(how_many_between(kind, kind.start(), order), how_many_beneath(kind, order))
            self.assertEqual(how_many_between(kind, order, kind.start()), [1] if order == kind.start() else [])

    def test_wrong_arguments(self):
        for kind, order, _ in GOOD:
            further = [("order", wrong) for wrong in wrong_orders(kind)]
            told = [("kind", kind, *KIND), ("order", order, *ORDER)]
            number = ("number", 1, InvalidNumber,
                      lambda kind, value, order=order: type(value) is int and 0 <= value < len(beneath(kind, order)))
            self.assert_refusals(beneath_numbered, kind, told + [number], further)
            self.assert_refusals(beneath_number, kind, told + [("value", order, None, None)], further)


class HeldIn(unittest.TestCase, Refusals):
    def test_small_orders(self):
        for kind in reference.small_kinds():
            for order in some_orders(kind, 4)[::3]:
                told = beneath(kind, order)
                for block in blocks_of(kind):
                    inside = [one for one in told if set(reference.down(kind, one)) <= set(block)]
                    found = held_in(kind, order, block)
                    self.assertIn(found, inside)
                    self.assertTrue(all(one in beneath(kind, found) for one in inside))

    def test_the_whole_block_and_none(self):
        for kind in reference.all_kinds():
            for order in great_orders(kind):
                self.assertEqual(held_in(kind, order, list(range(kind.steps()))), order)
                self.assertEqual(held_in(kind, order, []), kind.start())

    def test_great_orders(self):
        for kind in reference.all_kinds():
            for order in great_orders(kind):
                for block in blocks_of(kind)[::3]:
                    # Of whichever least row the steps in the block are taken, what they make greedily is the same.
                    row = [step for step in reference.down(kind, order) if step in block]
                    self.assertEqual(held_in(kind, order, block), reference.gains(kind, kind.start(), row))

    def test_wrong_arguments(self):
        for kind, order, _ in GOOD:
            further = [("order", wrong) for wrong in wrong_orders(kind)]
            further += [("block", wrong) for wrong in wrong_blocks(kind)]
            told = [("kind", kind, *KIND), ("order", order, *ORDER), ("block", [0], InvalidList, judge_block)]
            self.assert_refusals(held_in, kind, told, further)


class Factors(unittest.TestCase, Refusals):
    def check(self, kind, order, one, other, there):
        found = factors(kind, order, one, other)
        if not there:
            self.assertIsNone(found)
            return
        self.assertEqual([type(found), len(found)], [tuple, 2])
        low, high = found
        self.assertIs(is_beneath(kind, low, one), True)
        self.assertIs(is_beneath(kind, high, other), True)
        self.assertEqual(reference.row_done(kind, low, reference.down(kind, high)), order)
        self.assertIs(are_factors(kind, order, one, other, found), True)

    def test_small_orders(self):
        for kind in reference.small_kinds():
            told = some_orders(kind, 3)[:24]
            for one in told[::2]:
                for other in told[::3]:
                    rows = [reference.down(kind, order) for order in (one, other)]
                    products = reference.made_by_parts(kind, rows[0] + rows[1])
                    for order in told:
                        self.check(kind, order, one, other, tuple(order) in products)
                    whole = standreference.greedy(kind, one, other)
                    self.check(kind, whole, one, other, True)

    def test_great_orders(self):
        for kind in reference.all_kinds():
            told = great_orders(kind)
            for one in told[::2]:
                for other in told[::3]:
                    whole = standreference.greedy(kind, one, other)
                    for order in told:
                        self.check(kind, order, one, other, beneath_greedy(kind, order, whole))

    def test_are_factors_of_all_pairs(self):
        for kind in (Kind("plain", 3), Kind("mirror", 2), Kind("ring", 2)):
            told = some_orders(kind, 3)
            for one in told[::2]:
                for other in told[::3]:
                    for low in told:
                        for high in told:
                            order = reference.row_done(kind, low, reference.down(kind, high))
                            right = is_beneath(kind, low, one) and is_beneath(kind, high, other)
                            self.assertIs(are_factors(kind, order, one, other, (low, high)), right)
                            wrong = reference.step_done(kind, order, 0)
                            self.assertIs(are_factors(kind, wrong, one, other, (low, high)), False)

    def test_are_factors_of_any_value(self):
        kind = Kind("plain", 3)
        order, one, other = [0, 1, 2], [1, 0, 2], [2, 0, 1]
        start, step = [0, 1, 2], [1, 0, 2]
        for value in any_values() + wrong_orders(kind):
            self.assertIs(are_factors(kind, order, one, other, value), False)
            self.assertIs(are_factors(kind, order, one, other, (value, value)), repr(value) in ("[0, 1, 2]", "[1, 0, 2]"))
            self.assertIs(are_factors(kind, order, one, other, (start, value)), repr(value) == "[0, 1, 2]")
            self.assertIs(are_factors(kind, order, one, other, (value, step)), repr(value) == "[1, 0, 2]")
        for wrong in ([start, start], (start,), (start, start, start), (), ((0, 1, 2), (0, 1, 2))):
            self.assertIs(are_factors(kind, order, one, other, wrong), False)

    def test_wrong_arguments(self):
        for kind, one, other in GOOD:
            further = [(name, wrong) for wrong in wrong_orders(kind) for name in ("order", "one", "other")]
            told = [("kind", kind, *KIND), ("order", one, *ORDER), ("one", one, *ORDER), ("other", other, *ORDER)]
            self.assert_refusals(factors, kind, told, further)
            self.assert_refusals(are_factors, kind, told + [("value", (one, other), None, None)], further)


if __name__ == "__main__":
    unittest.main()
