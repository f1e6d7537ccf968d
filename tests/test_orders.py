"""Points 4, 7 and 8: orders."""

import math
import unittest

from seamlayers.errors import InvalidKind, InvalidNumber, InvalidOrder, TooMany
from seamlayers.kinds import Kind
from seamlayers.orders import crossings, falls, greatest, heads, how_many_orders, is_order, opposite
from seamlayers.orders import orders_with, product, stepped, stepped_ahead

from tests import reference
from tests.support import Refusals, any_values, judge_count, judge_kind, judge_order, judge_step

KIND = InvalidKind, judge_kind
ORDER = InvalidOrder, judge_order
STEP = InvalidNumber, judge_step

GOOD = [(Kind("plain", 3), [2, 0, 1], [1, 0, 2]), (Kind("mirror", 2), [-2, 1], [-1, -2]),
        (Kind("ring", 3), [-1, 1, 3], [-1, 0, 4]), (Kind("ring", 2), [3, -2], [1, 0])]


def many_up_to(kind):
    """Crossings up to which all orders of a kind are tried."""
    if kind.name() == "ring":
        return {2: 30, 3: 9, 4: 6, 5: 5}[kind.size()]
    return 25 if kind.size() < 5 else 5


def tried(kind):
    return reference.orders_up_to(kind, many_up_to(kind))


def ring_with(size, crossings_wanted):
    """A ring order with so many crossings: a row of steps round and round is least."""
    kind = Kind("ring", size)
    return reference.row_done(kind, kind.start(), [at % size for at in range(crossings_wanted)])


def wrong_orders(kind):
    """Orders of other sizes and kinds, near misses, and orders with too many crossings."""
    here = kind.start()
    size = kind.size()
    wrong = [tuple(here), here + [size], here[:-1], [str(item) for item in here], {at: at for at in here}]
    wrong += [[True if item == 1 else item for item in here]] if 1 in here else []
    wrong += [[False if item == 0 else item for item in here]] if 0 in here else []
    wrong += [[None] * size, [here] * size, [here[0]] * size] if size > 1 else [[None], [here]]
    wrong += [[item + 1 for item in here], [item - 1 for item in here], [item + size for item in here]]
    if kind.name() == "plain":
        wrong += [[-item for item in here]] if size > 1 else []
    if kind.name() == "ring":
        wrong += [ring_with(size, 61), ring_with(size, 62), ring_with(size, 200)]
        wrong += [[here[0] + size * 10 ** 28] + here[1:-1] + [here[-1] - size * 10 ** 28]]
        wrong += [[here[0] + 1] + here[1:-1] + [here[-1] - 1]] if size == 3 else []
    return wrong


class IsOrder(unittest.TestCase):
    def test_all_orders_of_all_kinds(self):
        for kind in reference.all_kinds():
            for _, order, _ in tried(kind):
                self.assertIs(is_order(kind, order), True)

    def test_any_value(self):
        for kind in reference.all_kinds():
            for value in any_values():
                self.assertIs(is_order(kind, value), judge_order(kind, value), (kind.name(), kind.size(), value))

    def test_near_misses(self):
        for kind in reference.all_kinds():
            for value in wrong_orders(kind):
                self.assertIs(is_order(kind, value), False, (kind.name(), kind.size(), value))

    def test_just_60_and_61(self):
        for size in range(2, 6):
            kind = Kind("ring", size)
            self.assertIs(is_order(kind, ring_with(size, 60)), True)
            self.assertIs(is_order(kind, ring_with(size, 61)), False)
            self.assertEqual(crossings(kind, ring_with(size, 60)), 60)

    def test_told_orders(self):
        plain, mirror, ring = Kind("plain", 1), Kind("mirror", 1), Kind("ring", 2)
        self.assertEqual([is_order(plain, value) for value in ([0], [1], [-1], [])], [True, False, False, False])
        self.assertEqual([is_order(mirror, value) for value in ([1], [-1], [0])], [True, True, False])
        self.assertEqual([is_order(ring, value) for value in ([1, 0], [2, -1], [60, -59], [0, 0], [2, 0], [3, -2])],
                         [True, True, True, False, False, True])

    def test_wrong_kind(self):
        for wrong in any_values():
            if not isinstance(wrong, Kind):
                for value in ([0, 1, 2], None, wrong):
                    with self.assertRaises(InvalidKind) as caught:
                        is_order(wrong, value)
                    self.assertIs(caught.exception.value, wrong)


class OneOrder(unittest.TestCase, Refusals):
    def test_crossings(self):
        for kind in reference.all_kinds():
            for many, order, _ in tried(kind):
                self.assertEqual(crossings(kind, order), many, (kind.name(), order))

    def test_falls(self):
        for kind in reference.all_kinds():
            for _, order, _ in tried(kind):
                self.assertEqual(falls(kind, order), reference.falls_of(kind, order))

    def test_falls_lessen_crossings(self):
        for kind in reference.all_kinds():
            for many, order, _ in tried(kind)[:200]:
                if many < 60:
                    for step in range(kind.steps()):
                        less = crossings(kind, stepped(kind, order, step)) - many
                        self.assertEqual(less, -1 if step in falls(kind, order) else 1)

    def test_opposite_and_heads(self):
        for kind in reference.all_kinds():
            for _, order, row in tried(kind):
                turned = reference.row_done(kind, kind.start(), row[::-1])
                self.assertEqual(opposite(kind, order), turned)
                self.assertEqual(heads(kind, order), reference.falls_of(kind, turned))
                self.assertEqual(product(kind, order, turned), kind.start())
                self.assertEqual(product(kind, turned, order), kind.start())

    def test_stepped(self):
        for kind in reference.all_kinds():
            for _, order, row in tried(kind)[:300]:
                for step in range(kind.steps()):
                    self.assertEqual(stepped(kind, order, step), reference.step_done(kind, order, step))
                    ahead = reference.row_done(kind, kind.start(), [step] + row)
                    self.assertEqual(stepped_ahead(kind, order, step), ahead)

    def test_the_start(self):
        for kind in reference.all_kinds():
            start = kind.start()
            self.assertEqual([crossings(kind, start), falls(kind, start), heads(kind, start)], [0, [], []])
            self.assertEqual(opposite(kind, start), start)

    def test_results_may_have_more_crossings(self):
        for size in range(2, 6):
            kind, order = Kind("ring", size), ring_with(size, 60)
            further = ring_with(size, 61)
            self.assertEqual(stepped(kind, order, 60 % size), further)
            with self.assertRaises(InvalidOrder) as caught:
                crossings(kind, further)
            self.assertIs(caught.exception.value, further)

    def test_wrong_arguments(self):
        with_step = {stepped: 0, stepped_ahead: 1}
        for kind, order, _ in GOOD:
            told = [("kind", kind, *KIND), ("order", order, *ORDER)]
            further = [("order", wrong) for wrong in wrong_orders(kind)]
            for function in (crossings, falls, heads, opposite):
                self.assert_refusals(function, kind, told, further)
            for function, step in with_step.items():
                steps = [("step", wrong) for wrong in (kind.steps(), -1, [step], True, False, None)]
                self.assert_refusals(function, kind, told + [("step", step, *STEP)], further + steps)

    def test_no_step_of_the_least_plain_kind(self):
        for step in (0, -1, True):
            for function in (stepped, stepped_ahead):
                with self.assertRaises(InvalidNumber) as caught:
                    function(Kind("plain", 1), [0], step)
                self.assertIs(caught.exception.value, step)


class Product(unittest.TestCase, Refusals):
    def test_product_of_all_pairs(self):
        for kind in reference.small_kinds():
            told = reference.orders_up_to(kind, 4)[:60]
            for _, one, _ in told:
                for _, other, row in told:
                    self.assertEqual(product(kind, one, other), reference.row_done(kind, one, row))

    def test_product_of_great_orders(self):
        for size in range(2, 6):
            kind, order = Kind("ring", size), ring_with(size, 60)
            row = [at % size for at in range(60)]
            self.assertEqual(product(kind, order, order), reference.row_done(kind, order, row))
            self.assertEqual(product(kind, order, opposite(kind, order)), kind.start())

    def test_greatest_orders(self):
        for kind in reference.all_kinds():
            if kind.name() != "ring":
                most = greatest(kind)
                self.assertEqual(product(kind, most, most), kind.start())

    def test_wrong_arguments(self):
        for kind, one, other in GOOD:
            further = [(name, wrong) for wrong in wrong_orders(kind) for name in ("one", "other")]
            self.assert_refusals(
                product, kind, [("kind", kind, *KIND), ("one", one, *ORDER), ("other", other, *ORDER)], further)


class HowMany(unittest.TestCase, Refusals):
    def test_all_numbers_of_crossings(self):
        for kind in reference.all_kinds():
            most = many_up_to(kind) if kind.size() < 5 or kind.name() == "ring" else 7
            told = [len(level) for level in reference.levels(kind, most)]
            self.assertEqual([how_many_orders(kind, many) for many in range(len(told))], told)
            if kind.name() != "ring" and len(told) <= most:
                self.assertEqual(how_many_orders(kind, len(told)), 0)

    def test_sums(self):
        for size in range(1, 8):
            counts = [how_many_orders(Kind("plain", size), many) for many in range(201)]
            self.assertEqual(sum(counts), math.factorial(size))
            self.assertEqual(counts[size * (size - 1) // 2:][:2], [1, 0])
        for size in range(1, 6):
            counts = [how_many_orders(Kind("mirror", size), many) for many in range(201)]
            self.assertEqual(sum(counts), math.factorial(size) * 2 ** size)
            self.assertEqual(counts[size * size:][:2], [1, 0])

    def test_rings(self):
        self.assertEqual([how_many_orders(Kind("ring", 2), many) for many in (0, 1, 199, 200)], [1, 2, 2, 2])
        self.assertEqual([how_many_orders(Kind("ring", 3), many) for many in (0, 1, 2, 200)], [1, 3, 6, 600])
        for size in (4, 5):
            self.assertEqual(how_many_orders(Kind("ring", size), 200), slow_ring_count(size, 200))

    def test_none_beyond_the_greatest(self):
        for kind in (Kind("plain", 1), Kind("plain", 7), Kind("mirror", 5)):
            self.assertEqual([how_many_orders(kind, 200), orders_with(kind, 200)], [0, []])

    def test_wrong_arguments(self):
        for kind, _, _ in GOOD:
            told = [("kind", kind, *KIND), ("crossings", 2, InvalidNumber, judge_count)]
            for function in (how_many_orders, orders_with):
                self.assert_refusals(function, kind, told)


def slow_ring_count(size, many):
    """The number at x ** many in the quotient of point 8, by long division."""
    numerator = [1]
    for factor in range(1, size + 1):
        numerator = multiplied(numerator, [1] * factor)
    divisor = [1]
    for gap in range(1, size):
        divisor = multiplied(divisor, [1] + [0] * (gap - 1) + [-1])
    rest = numerator + [0] * (many + 1)
    for at in range(many):
        worth = rest[at]
        for shift, number in enumerate(divisor):
            rest[at + shift] -= worth * number if at + shift < len(rest) else 0
    return rest[many]


def multiplied(one, other):
    found = [0] * (len(one) + len(other) - 1)
    for at, many in enumerate(one):
        for place, more in enumerate(other):
            found[at + place] += many * more
    return found


def walked_up(kind, most):
    """For 0, 1, 2, .. crossings, up to a number, all orders, in order: each by one step more from one ahead."""
    here = [tuple(kind.start())]
    for _ in range(most + 1):
        yield [list(order) for order in sorted(here)]
        here = {tuple(reference.step_done(kind, order, step)) for order in here for step in range(kind.steps())
                if not reference.crossed_at(kind, order, step)}


class OrdersWith(unittest.TestCase):
    def test_all_numbers_of_crossings_whose_orders_are_listed(self):
        for kind in reference.all_kinds():
            # Up to the limit, or up to where there are more than 1,000 orders, or to one beyond the greatest.
            most = {4: 22, 5: 10}.get(kind.size(), 200) if kind.name() == "ring" else 26
            for many, told in enumerate(walked_up(kind, most)):
                found = orders_with(kind, many)
                self.assertEqual(found, told, (kind.name(), kind.size(), many))
                self.assertEqual(len(found), how_many_orders(kind, many))
            if kind.name() == "ring" and kind.size() > 3:
                with self.assertRaises(TooMany):
                    orders_with(kind, most + 1)

    def test_the_greatest_numbers_of_crossings(self):
        self.assertEqual(orders_with(Kind("plain", 7), 21), [[6, 5, 4, 3, 2, 1, 0]])
        self.assertEqual(orders_with(Kind("plain", 7), 22), [])
        self.assertEqual(orders_with(Kind("mirror", 5), 25), [[-1, -2, -3, -4, -5]])
        self.assertEqual(orders_with(Kind("mirror", 5), 26), [])
        found = orders_with(Kind("ring", 5), 10)
        self.assertEqual([len(found), found[0], found[-1]], [875, [-10, 3, 4, 6, 7], [10, -2, -1, 1, 2]])

    def test_levels(self):
        for kind in reference.all_kinds():
            for many, level in enumerate(reference.levels(kind, min(many_up_to(kind), 7))):
                self.assertEqual(orders_with(kind, many), sorted(order for order, _ in level))

    def test_greatest_limits(self):
        found = orders_with(Kind("ring", 3), 200)
        self.assertEqual(len(found), 600)
        self.assertEqual(found, sorted(found))
        self.assertEqual(len({tuple(order) for order in found}), 600)
        for order in found[::37]:
            self.assertTrue(reference.is_order_form(Kind("ring", 3), order))
            self.assertEqual(len(reference.down(Kind("ring", 3), order)), 200)
        self.assertEqual(orders_with(Kind("ring", 2), 200), [[-200, 201], [200, -199]])
        self.assertEqual(len(orders_with(Kind("plain", 7), 10)), 573)

    def test_too_many(self):
        for size in (4, 5):
            kind, many = Kind("ring", size), 0
            while how_many_orders(kind, many + 1) <= 1000:
                many += 1
            self.assertEqual(len(orders_with(kind, many)), how_many_orders(kind, many))
            for beyond in (many + 1, 200):
                with self.assertRaises(TooMany) as caught:
                    orders_with(kind, beyond)
                self.assertEqual(caught.exception.value, slow_ring_count(size, beyond))

    def test_just_up_to_a_thousand(self):
        kind = Kind("ring", 3)
        self.assertEqual(len(orders_with(kind, 333)), 999)
        with self.assertRaises(TooMany) as caught:
            orders_with(kind, 334)
        self.assertEqual(caught.exception.value, 1002)


class Greatest(unittest.TestCase, Refusals):
    def test_all_kinds(self):
        for kind in reference.all_kinds():
            if kind.name() == "ring":
                self.assertIsNone(greatest(kind))
                continue
            most = greatest(kind)
            self.assertEqual(falls(kind, most), list(range(kind.steps())))
            self.assertEqual(most, [-item for item in kind.start()] if kind.name() == "mirror" else kind.start()[::-1])

    def test_wrong_kind(self):
        self.assert_refusals(greatest, Kind("plain", 3), [("kind", Kind("plain", 3), *KIND)])


if __name__ == "__main__":
    unittest.main()
