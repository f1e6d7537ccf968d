"""Points 17 to 20: greedy products."""

import itertools
import unittest

from seamlayers.errors import InvalidKind, InvalidList, InvalidNumber, InvalidOrder, InvalidRow
from seamlayers.greedy import gained, gained_ahead, greedy, greedy_all, greedy_row, halves, how_many_leave, kept
from seamlayers.greedy import kept_behind, leaves_alone, lost, power, settled_orders, settles
from seamlayers.kinds import Kind
from seamlayers.orders import greatest

from tests import reference
from tests.support import Refusals, any_values, judge_kind, judge_order, judge_row, judge_step
from tests.test_blocks import blocks_of, is_endless, made_in
from tests.test_orders import GOOD, ring_with, wrong_orders
from tests.test_rows import rows_tried, wrong_rows

KIND = InvalidKind, judge_kind
ORDER = InvalidOrder, judge_order
STEP = InvalidNumber, judge_step
ROW = InvalidRow, judge_row


def turned(kind, order):
    """The opposite of an order."""
    return reference.row_done(kind, kind.start(), reference.down(kind, order)[::-1])


def many(kind, order):
    """The crossings of an order."""
    return len(reference.down(kind, order))


def greedy_slowly(kind, one, other):
    return reference.gains(kind, one, reference.down(kind, other))


def tried(kind, most=40):
    """Some orders with few crossings, some with more, and the greatest one."""
    chance = reference.Chance(kind.size() + 17)
    told = [order for _, order, _ in reference.orders_up_to(kind, 4)[:most]]
    told += [chance.order(kind, length) for length in (6, 8, 12)] if kind.steps() else []
    return told + ([greatest(kind)] if kind.name() != "ring" else [ring_with(kind.size(), 11)])


class Gained(unittest.TestCase, Refusals):
    def test_gained(self):
        for kind in reference.all_kinds():
            for order in tried(kind):
                for step in range(kind.steps()):
                    self.assertEqual(gained(kind, order, step), reference.gains(kind, order, [step]))
                    ahead = turned(kind, reference.gains(kind, turned(kind, order), [step]))
                    self.assertEqual(gained_ahead(kind, order, step), ahead)

    def test_beyond_sixty_crossings(self):
        for size in range(2, 6):
            kind = Kind("ring", size)
            self.assertEqual(gained(kind, ring_with(size, 60), 60 % size), ring_with(size, 61))
            self.assertEqual(gained(kind, ring_with(size, 60), 59 % size), ring_with(size, 60))

    def test_wrong_arguments(self):
        for kind, order, _ in GOOD:
            further = [("order", wrong) for wrong in wrong_orders(kind)]
            further += [("step", wrong) for wrong in (kind.steps(), -1, [0], True, False, None)]
            told = [("kind", kind, *KIND), ("order", order, *ORDER), ("step", 0, *STEP)]
            for function in (gained, gained_ahead):
                self.assert_refusals(function, kind, told, further)


class Greedy(unittest.TestCase, Refusals):
    def test_the_same_for_all_least_rows(self):
        for kind in reference.all_kinds():
            told = tried(kind, 12)
            for one, other in itertools.product(told, told[:12]):
                found = greedy(kind, one, other)
                for row in reference.least_rows(kind, other)[:20]:
                    self.assertEqual(found, reference.gains(kind, one, row))

    def test_great_orders(self):
        for kind in reference.all_kinds():
            for one, other in itertools.product(tried(kind, 5), repeat=2):
                self.assertEqual(greedy(kind, one, other), greedy_slowly(kind, one, other))
        for size in range(2, 6):
            kind, order = Kind("ring", size), ring_with(size, 60)
            self.assertEqual(greedy(kind, order, order), greedy_slowly(kind, order, order))

    def test_neighbours_and_opposites(self):
        for kind in reference.all_kinds():
            told = tried(kind, 9)[3:]
            for one, other, last in itertools.product(told[:5], told[-5:], told[2:6]):
                left = greedy(kind, greedy(kind, one, other), last)
                self.assertEqual(left, greedy(kind, one, greedy(kind, other, last)))
                self.assertEqual(greedy_all(kind, [one, other, last]), left)
                self.assertEqual(turned(kind, greedy(kind, one, other)),
                                 greedy(kind, turned(kind, other), turned(kind, one)))

    def test_lists_of_orders(self):
        for kind in reference.all_kinds():
            self.assertEqual(greedy_all(kind, []), kind.start())
            told = tried(kind, 6)
            self.assertEqual(greedy_all(kind, [told[-1]]), told[-1])
            for length in (2, 3, 19, 20):
                orders = [told[at % len(told)] for at in range(length)]
                slowly = kind.start()
                for order in orders:
                    slowly = greedy_slowly(kind, slowly, order)
                self.assertEqual(greedy_all(kind, orders), slowly)

    def test_lists_of_great_orders(self):
        for size in range(2, 6):
            kind = Kind("ring", size)
            orders = [ring_with(size, 60), kind.start(), ring_with(size, 60), ring_with(size, 60)]
            slowly = reference.gains(kind, kind.start(), [at % size for at in range(60)] * 3)
            self.assertEqual(greedy_all(kind, orders), slowly)

    def test_wrong_lists(self):
        for kind, one, other in GOOD:
            start = kind.start()
            wrong = [[start] * 21, [one] * 25, (start,), (), {0: start}, start, [tuple(start)], [start, None], [[]]]
            wrong += [[start, one, bad] for bad in wrong_orders(kind)] + [[bad] for bad in wrong_orders(kind)]
            further = [("orders", value) for value in wrong]
            self.assert_refusals(greedy_all, kind, [
                ("kind", kind, *KIND), ("orders", [one, other], InvalidList, judge_orders)], further)
            self.assertEqual(greedy_all(kind, [start] * 20), start)

    def test_wrong_arguments(self):
        for kind, one, other in GOOD:
            further = [(name, wrong) for wrong in wrong_orders(kind) for name in ("one", "other")]
            told = [("kind", kind, *KIND), ("one", one, *ORDER), ("other", other, *ORDER)]
            for function in (greedy, lost, halves, leaves_alone):
                self.assert_refusals(function, kind, told, further)


def judge_orders(kind, value):
    return type(value) is list and len(value) <= 20 and all(judge_order(kind, order) for order in value)


class Halves(unittest.TestCase, Refusals):
    def check(self, kind, one, other):
        whole = greedy_slowly(kind, one, other)
        told = halves(kind, one, other)
        self.assertIs(type(told), tuple)
        part, rest = told
        self.assertEqual(reference.row_done(kind, one, reference.down(kind, rest)), whole)
        self.assertEqual(reference.row_done(kind, part, reference.down(kind, other)), whole)
        self.assertEqual(many(kind, one) + many(kind, rest), many(kind, whole))
        self.assertEqual(many(kind, part) + many(kind, other), many(kind, whole))
        if many(kind, one) + many(kind, other) < 25:
            self.assertTrue(reference.is_beneath(kind, part, one))
            self.assertTrue(reference.is_beneath(kind, rest, other))
        self.assertEqual(lost(kind, one, other), many(kind, one) + many(kind, other) - many(kind, whole))
        product = reference.row_done(kind, one, reference.down(kind, other))
        self.assertIs(lost(kind, one, other) == 0, product == whole)

    def test_pairs_of_orders(self):
        for kind in reference.all_kinds():
            for one, other in itertools.product(tried(kind, 10), repeat=2):
                self.check(kind, one, other)

    def test_orders_of_rows_of_twelve_steps(self):
        for kind in reference.all_kinds():
            chance = reference.Chance(kind.size() * 12)
            for _ in range(8 if kind.steps() else 0):
                self.check(kind, chance.order(kind, 12), chance.order(kind, 12))

    def test_great_orders(self):
        for kind in reference.all_kinds():
            order = ring_with(kind.size(), 60) if kind.name() == "ring" else greatest(kind)
            for one, other in itertools.product([order, kind.start(), turned(kind, order)], repeat=2):
                self.check(kind, one, other)


class LeavesAlone(unittest.TestCase, Refusals):
    def test_leaves_alone(self):
        for kind in reference.all_kinds():
            for one, other in itertools.product(tried(kind, 14), repeat=2):
                alone = leaves_alone(kind, one, other)
                self.assertIs(alone, greedy_slowly(kind, one, other) == one)
                steps = set(reference.down(kind, other))
                self.assertIs(alone, steps <= set(reference.falls_of(kind, one)))

    def test_how_many_leave(self):
        for kind in reference.small_kinds():
            most = 16 if kind.name() != "ring" else 7
            every = [order for _, order, _ in reference.orders_up_to(kind, most)]
            for order in tried(kind, 10):
                found = [one for one in every if greedy_slowly(kind, order, one) == order]
                self.assertEqual(how_many_leave(kind, order), len(found), (kind.name(), order))

    def test_great_orders(self):
        for name, size, told in [("plain", 7, 5040), ("mirror", 5, 3840), ("plain", 1, 1), ("mirror", 1, 2)]:
            self.assertEqual(how_many_leave(Kind(name, size), greatest(Kind(name, size))), told)
        for size in range(2, 6):
            kind, order = Kind("ring", size), ring_with(size, 60)
            self.assertEqual(how_many_leave(kind, order), len(made_in(kind, reference.falls_of(kind, order))))
        self.assertEqual(how_many_leave(Kind("ring", 5), [10, 6, 2, -2, -6]), 120)

    def test_wrong_arguments(self):
        for kind, order, _ in GOOD:
            further = [("order", wrong) for wrong in wrong_orders(kind)]
            for function in (how_many_leave, settles):
                self.assert_refusals(function, kind, [("kind", kind, *KIND), ("order", order, *ORDER)], further)


class Powers(unittest.TestCase, Refusals):
    def test_power(self):
        for kind in reference.all_kinds():
            for order in tried(kind, 25):
                slowly = kind.start()
                for count in range(6):
                    self.assertEqual(power(kind, order, count), slowly)
                    slowly = greedy_slowly(kind, slowly, order)

    def test_greatest_counts(self):
        for kind in reference.all_kinds():
            for order in tried(kind, 8)[:-1]:
                if settles(kind, order) is not None:
                    self.assertEqual(power(kind, order, 1000), power(kind, order, 60))
            self.assertEqual(power(kind, kind.start(), 1000), kind.start())

    def test_powers_that_grow_for_ever(self):
        for size in range(2, 6):
            kind = Kind("ring", size)
            order = ring_with(size, size)
            self.assertIsNone(settles(kind, order))
            self.assertEqual(power(kind, order, 200 // size), ring_with(size, 200 // size * size))
            sixty = ring_with(size, 60)
            self.assertIsNone(settles(kind, sixty))
            self.assertEqual(power(kind, sixty, 3), reference.gains(kind, kind.start(), [at % size for at in range(60)] * 3))

    def test_settles(self):
        for kind in reference.all_kinds():
            for order in tried(kind, 25):
                steps = set(reference.down(kind, order))
                told = settles(kind, order)
                if kind.name() == "ring" and len(steps) == kind.size():
                    self.assertIsNone(told)
                    continue
                powers = [order]
                while greedy_slowly(kind, powers[-1], order) != powers[-1]:
                    powers.append(greedy_slowly(kind, powers[-1], order))
                self.assertEqual(told, len(powers))
                # The greatest order that these steps make is made by them and crossed at all of them.
                self.assertEqual(set(reference.falls_of(kind, powers[-1])), steps)
                self.assertEqual(set(reference.down(kind, powers[-1])), steps)
                if len(steps) < 4:
                    found = made_in(kind, steps)
                    self.assertEqual(tuple(powers[-1]), max(found, key=lambda one: many(kind, list(one))))

    def test_told_settlings(self):
        for kind in reference.all_kinds():
            self.assertEqual(settles(kind, kind.start()), 1)
            if kind.name() != "ring":
                self.assertEqual(settles(kind, greatest(kind)), 1)
        self.assertEqual(settles(Kind("plain", 7), [1, 2, 3, 4, 5, 6, 0]), 6)
        self.assertEqual([settles(Kind("ring", 2), order) for order in ([1, 0], [-1, 2], [2, -1])], [1, 1, None])

    def test_settled_orders(self):
        for kind in reference.small_kinds():
            told = [order for _, order, _ in reference.orders_up_to(kind, 16 if kind.name() != "ring" else 7)
                    if greedy_slowly(kind, order, order) == order]
            self.assertEqual(settled_orders(kind), sorted(told))

    def test_settled_orders_of_all_kinds(self):
        for kind in reference.all_kinds():
            told = settled_orders(kind)
            self.assertEqual(told, sorted(told))
            self.assertEqual(len(told), len([block for block in blocks_of(kind) if not is_endless(kind, block)]))
            self.assertEqual(len({tuple(order) for order in told}), len(told))
            for order in told:
                self.assertEqual(greedy_slowly(kind, order, order), order)

    def test_wrong_arguments(self):
        self.assert_refusals(settled_orders, Kind("ring", 2), [("kind", Kind("ring", 2), *KIND)])
        for kind, order, _ in GOOD:
            further = [("order", wrong) for wrong in wrong_orders(kind)]
            further += [("count", wrong) for wrong in (1001, 10 ** 29, -1, True, False, None, [1])]
            self.assert_refusals(power, kind, [
                ("kind", kind, *KIND), ("order", order, *ORDER),
                ("count", 1, InvalidNumber, lambda kind, value: reference.is_whole(value) and 0 <= value <= 1000)], further)


class Kept(unittest.TestCase, Refusals):
    def test_greedy_row_and_kept(self):
        for kind in reference.all_kinds():
            for row in rows_tried(kind):
                order, places = kind.start(), []
                for at, step in enumerate(row):
                    if not reference.crossed_at(kind, order, step):
                        places.append(at)
                        order = reference.step_done(kind, order, step)
                self.assertEqual(greedy_row(kind, row), order)
                self.assertEqual(kept(kind, row), places)

    def test_kept_behind(self):
        for kind in reference.all_kinds():
            for row in rows_tried(kind):
                order, places = kind.start(), []
                for at in range(len(row) - 1, -1, -1):
                    back = turned(kind, reference.gains(kind, turned(kind, order), [row[at]]))
                    if back != order:
                        places.insert(0, at)
                    order = back
                self.assertEqual(order, greedy_row(kind, row))
                self.assertEqual(kept_behind(kind, row), places)

    def test_both_are_least_rows_of_it(self):
        for kind in reference.all_kinds():
            for row in rows_tried(kind):
                order = greedy_row(kind, row)
                for places in (kept(kind, row), kept_behind(kind, row)):
                    self.assertEqual(reference.row_done(kind, kind.start(), [row[at] for at in places]), order)
                    self.assertEqual(len(places), many(kind, order))
                self.assertIs(kept(kind, row) == list(range(len(row))), reference.is_least(kind, row))

    def test_rows_of_just_a_hundred_steps(self):
        for size in range(2, 6):
            kind, row = Kind("ring", size), [at % size for at in range(100)]
            self.assertEqual(greedy_row(kind, row), ring_with(size, 100))
            self.assertEqual([kept(kind, row), kept_behind(kind, row)], [list(range(100))] * 2)
            self.assertEqual([kept(kind, [0] * 100), kept_behind(kind, [0] * 100)], [[0], [99]])

    def test_empty_row(self):
        for kind in reference.all_kinds():
            self.assertEqual([greedy_row(kind, []), kept(kind, []), kept_behind(kind, [])], [kind.start(), [], []])

    def test_wrong_arguments(self):
        for kind, _, _ in GOOD:
            further = [("row", wrong) for wrong in wrong_rows(kind)]
            for function in (greedy_row, kept, kept_behind):
                self.assert_refusals(function, kind, [("kind", kind, *KIND), ("row", [0, 1, 1], *ROW)], further)

    def test_any_value_as_a_row(self):
        kind = Kind("plain", 1)
        for value in any_values():
            if not reference.is_row(kind, value):
                with self.assertRaises(InvalidRow):
                    greedy_row(kind, value)


if __name__ == "__main__":
    unittest.main()
