"""Points 30 to 32: what is beneath what, with parts of rows and cells that tell it."""

import unittest

from seamlayers.beneath import ahead, barred_cell, is_barred, is_beneath, is_part, part
from seamlayers.errors import InvalidKind, InvalidNumber, InvalidOrder, InvalidRow
from seamlayers.kinds import Kind
from seamlayers.orders import greatest, stepped

from tests import reference
from tests.support import Refusals, any_values, judge_kind, judge_order, judge_row
from tests.test_orders import GOOD, ring_with, wrong_orders
from tests.test_rows import wrong_rows

KIND = InvalidKind, judge_kind
ORDER = InvalidOrder, judge_order
ROW = InvalidRow, judge_row


def judge_whole(_kind, value):
    return type(value) is int


def some_orders(kind, most=None):
    """All orders with few crossings."""
    most = {"plain": 6, "mirror": 5, "ring": 5}[kind.name()] if most is None else most
    return [order for _, order, _ in reference.orders_up_to(kind, most)][:90]


def great_orders(kind):
    """Orders with up to 60 crossings, great ones and some beneath them."""
    chance = reference.Chance(31 * kind.size())
    if kind.name() == "ring":
        rows = [[at % kind.size() for at in range(60)], chance.least_row(kind, 60), chance.least_row(kind, 57)]
    else:
        rows = [reference.down(kind, greatest(kind)), chance.least_row(kind, 9)]
    for row in list(rows):
        rows += [[step for step in row if chance.below(6)], row[:len(row) // 2], row[2:]]
    told = [reference.row_done(kind, kind.start(), row) for row in rows]
    return [order for order in told if len(reference.down(kind, order)) <= 60] + [kind.start()]


def stands_ahead(kind, order, cut, many=260):
    """The items ahead of a cut, of a ring those at the last places: of 60 crossings all above -180 are among 260."""
    if kind.name() == "plain":
        return order[:cut]
    if kind.name() == "mirror":
        return ([-item for item in order[::-1]] + order)[:cut]
    return [reference.item(kind, order, place) for place in range(cut - many, cut)]


def count_ahead(kind, order, cut, number, many=260):
    return len([item for item in stands_ahead(kind, order, cut, many) if item >= number])


def cuts_of(kind):
    return {"plain": range(kind.size() + 1), "mirror": range(2 * kind.size() + 1), "ring": range(-4, 9)}[kind.name()]


class Beneath(unittest.TestCase, Refusals):
    def test_all_pairs(self):
        for kind in reference.all_kinds():
            told = some_orders(kind)
            for other in told:
                found = reference.made_by_parts(kind, reference.down(kind, other))
                for one in told:
                    self.assertIs(is_beneath(kind, one, other), tuple(one) in found)

    def test_the_start_and_equal_orders(self):
        for kind in reference.all_kinds():
            for order in some_orders(kind) + great_orders(kind):
                self.assertIs(is_beneath(kind, kind.start(), order), True)
                self.assertIs(is_beneath(kind, order, kind.start()), order == kind.start())
                self.assertIs(is_beneath(kind, order, order), True)

    def test_great_orders_by_falls(self):
        for kind in reference.all_kinds():
            told = great_orders(kind)
            for one in told:
                for other in told:
                    for step in reference.falls_of(kind, other):
                        less = stepped(kind, one, step) if step in reference.falls_of(kind, one) else one
                        self.assertIs(is_beneath(kind, one, other), is_beneath(kind, less, stepped(kind, other, step)))

    def test_parts_of_great_rows(self):
        for kind in reference.all_kinds():
            chance = reference.Chance(kind.size())
            row = chance.least_row(kind, 60)
            other = reference.row_done(kind, kind.start(), row)
            for _ in range(20):
                one = reference.row_done(kind, kind.start(), [step for step in row if chance.below(5)])
                self.assertIs(is_beneath(kind, one, other), True)
                self.assertIs(is_beneath(kind, other, one), one == other)

    def test_neither_is_beneath_the_other(self):
        for kind, one, other in ((Kind("plain", 3), [1, 2, 0], [2, 0, 1]), (Kind("mirror", 2), [2, -1], [-2, 1]),
                                 (Kind("ring", 2), [-1, 2], [1, 0]), (Kind("ring", 2), [60, -59], [-60, 61])):
            self.assertEqual([is_beneath(kind, one, other), is_beneath(kind, other, one)], [False, False])
            for first, second in ((one, other), (other, one)):
                self.assertIs(is_barred(kind, first, second, barred_cell(kind, first, second)), True)

    def test_wrong_arguments(self):
        for kind, one, other in GOOD:
            further = [(name, wrong) for wrong in wrong_orders(kind) for name in ("one", "other")]
            told = [("kind", kind, *KIND), ("one", one, *ORDER), ("other", other, *ORDER)]
            for function in (is_beneath, barred_cell):
                self.assert_refusals(function, kind, told, further)
            self.assert_refusals(is_barred, kind, told + [("value", (0, 0), None, None)], further)


class Parts(unittest.TestCase, Refusals):
    def check(self, kind, order, row, there):
        found = part(kind, order, row)
        if not there:
            self.assertIsNone(found)
            return
        self.assertIs(type(found), list)
        self.assertEqual(found, sorted(set(found)))
        steps = [row[at] for at in found]
        self.assertEqual(reference.row_done(kind, kind.start(), steps), order)
        self.assertEqual(len(steps), len(reference.down(kind, order)))
        self.assertIs(is_part(kind, order, row, found), True)

    def test_all_short_rows(self):
        for kind in reference.small_kinds():
            told = some_orders(kind, 4)[:40]
            for row in reference.rows_up_to(kind, 4)[::3] + [reference.Chance(1).row(kind, 7)]:
                found = reference.made_by_parts(kind, row)
                for order in told:
                    self.check(kind, order, row, tuple(order) in found)

    def test_beneath_the_greedy_product(self):
        for kind in reference.all_kinds():
            chance = reference.Chance(31)
            for length in (12, 40, 100):
                row = chance.row(kind, length)
                whole = reference.gains(kind, kind.start(), row)
                for order in great_orders(kind):
                    self.check(kind, order, row, beneath_greedy(kind, order, whole))
                if len(reference.down(kind, whole)) <= 60:
                    self.check(kind, whole, row, True)

    def test_the_empty_row_and_the_start(self):
        for kind in reference.all_kinds():
            self.assertEqual(part(kind, kind.start(), []), [])
            self.assertEqual(part(kind, kind.start(), [0] * 100 if kind.steps() else []), [])
            for order in some_orders(kind, 1)[1:]:
                self.assertIsNone(part(kind, order, []))

    def test_is_part_of_all_lists(self):
        for kind in (Kind("plain", 3), Kind("mirror", 2), Kind("ring", 2), Kind("ring", 3)):
            for row in ([], [0], [0, 1, 0, 1], [0, 0, 1, 1, 0]):
                for value in reference.subsets(list(range(len(row)))):
                    made = reference.row_done(kind, kind.start(), [row[at] for at in value])
                    for order in some_orders(kind, 3):
                        self.assertIs(is_part(kind, order, row, value), made == order)

    def test_is_part_of_any_value(self):
        for kind, order, row in ((Kind("plain", 3), [0, 1, 2], [0, 1, 0]), (Kind("mirror", 2), [-1, 2], [0, 1])):
            right = [value for value in reference.subsets(list(range(len(row))))
                     if reference.row_done(kind, kind.start(), [row[at] for at in value]) == order]
            more = [(0, 2), [2, 0], [0, 0], [-1], [3], [0, 3], [False, 2], [-3, -1], [0, True], [None], (), [[0]]]
            for value in any_values() + more:
                self.assertIs(is_part(kind, order, row, value), repr(value) in [repr(one) for one in right], value)

    def test_wrong_arguments(self):
        for kind, order, _ in GOOD:
            further = [("order", wrong) for wrong in wrong_orders(kind)] + [("row", row) for row in wrong_rows(kind)]
            told = [("kind", kind, *KIND), ("order", order, *ORDER), ("row", [0, 1, 0], *ROW)]
            self.assert_refusals(part, kind, told, further)
            self.assert_refusals(is_part, kind, told + [("value", [], None, None)], further)


def beneath_greedy(kind, one, other):
    """Whether an order is beneath another one, however many crossings both have: by falls, point 30."""
    while other != kind.start():
        step = reference.falls_of(kind, other)[-1]
        if step in reference.falls_of(kind, one):
            one = reference.step_done(kind, one, step)
        other = reference.step_done(kind, other, step)
    return one == other


class Cells(unittest.TestCase, Refusals):
    def test_ahead(self):
        for kind in reference.all_kinds():
            for order in some_orders(kind, 3)[:30]:
                for cut in cuts_of(kind):
                    for number in range(-9, 12):
                        self.assertEqual(ahead(kind, order, cut, number), count_ahead(kind, order, cut, number, 40))

    def test_ahead_of_far_cuts_and_numbers(self):
        great = 10 ** 30 - 1
        for size in range(2, 6):
            kind, order = Kind("ring", size), ring_with(size, 60)
            for cut in (0, 1, size - 1, size, -3 * size, 7 * size + 1):
                for number in range(-90, 90, 7):
                    self.assertEqual(ahead(kind, order, cut, number), count_ahead(kind, order, cut, number))
            self.assertEqual(ahead(kind, order, -great, great), 0)
            self.assertEqual(ahead(kind, kind.start(), great, -great), 2 * great)
            self.assertEqual(ahead(kind, order, great, great), ahead(kind, order, 0, 0) if great % size == 0 else
                             ahead(kind, order, great % size, great % size))
        for kind in (Kind("plain", 4), Kind("mirror", 2)):
            order = kind.start()
            self.assertEqual([ahead(kind, order, cut, -great) for cut in range(5)], [0, 1, 2, 3, 4])
            self.assertEqual([ahead(kind, order, cut, great) for cut in range(5)], [0] * 5)

    def test_wrong_cuts(self):
        for kind in reference.all_kinds():
            most = {"plain": kind.size(), "mirror": 2 * kind.size(), "ring": None}[kind.name()]
            wrong = [True, False, None, "0", [0], (0,), {}] + ([-1, most + 1, 10 ** 29] if most else [])
            for cut in wrong:
                for number in (0, None, True):
                    with self.assertRaises(InvalidNumber) as caught:
                        ahead(kind, kind.start(), cut, number)
                    self.assertIs(caught.exception.value, cut)
            for cut in ([0, most] if most else [-1, 10 ** 29]):
                for number in (True, False, None, "0", [0], (0,)):
                    with self.assertRaises(InvalidNumber) as caught:
                        ahead(kind, kind.start(), cut, number)
                    self.assertIs(caught.exception.value, number)

    def first_barred(self, kind, one, other, far=130):
        for cut in range(kind.size()) if kind.name() == "ring" else cuts_of(kind):
            first, second = stands_ahead(kind, one, cut, 2 * far), stands_ahead(kind, other, cut, 2 * far)
            for number in range(-far, far):
                if sum(item >= number for item in first) > sum(item >= number for item in second):
                    return cut, number
        return None

    def test_barred_cell(self):
        for kind in reference.all_kinds():
            told = some_orders(kind, 3)
            for one in told[::4]:
                for other in told[::3]:
                    self.assertEqual(barred_cell(kind, one, other), self.first_barred(kind, one, other, 20))
                    self.assertIs(barred_cell(kind, one, other) is None, is_beneath(kind, one, other))

    def test_barred_cells_of_great_orders(self):
        for kind in reference.all_kinds():
            told = great_orders(kind)[:6]
            for one in told:
                for other in told:
                    found = barred_cell(kind, one, other)
                    self.assertIs(found is None, is_beneath(kind, one, other))
                    if found is not None:
                        self.check_least(kind, one, other, *found)

    def check_least(self, kind, one, other, cut, number):
        self.assertGreater(count_ahead(kind, one, cut, number), count_ahead(kind, other, cut, number))
        self.assertIs(is_barred(kind, one, other, (cut, number)), True)
        for less in range(number - 200, number):
            self.assertIs(is_barred(kind, one, other, (cut, less)), False)
        for before in range(cut):
            for any_number in range(-130, 130):
                self.assertIs(is_barred(kind, one, other, (before, any_number)), False)

    def test_the_farthest_rings(self):
        kind = Kind("ring", 2)
        one, other = [60, -59], [-60, 61]
        self.assertEqual(barred_cell(kind, one, kind.start()), self.first_barred(kind, one, kind.start()))
        self.assertEqual(barred_cell(kind, other, kind.start()), self.first_barred(kind, other, kind.start()))
        self.assertEqual(barred_cell(kind, one, other), self.first_barred(kind, one, other))

    def test_is_barred(self):
        for kind in reference.all_kinds():
            told = some_orders(kind, 2)
            for one, other in zip(told[::2], told[1::2]):
                for cut in cuts_of(kind):
                    for number in range(-9, 12):
                        right = count_ahead(kind, one, cut, number, 40) > count_ahead(kind, other, cut, number, 40)
                        self.assertIs(is_barred(kind, one, other, (cut, number)), right)

    def test_is_barred_of_any_value(self):
        kind, one, other = Kind("plain", 3), [1, 2, 0], [2, 0, 1]
        more = [(2, 1, 0), [2, 1], (2, True), (True, 1), (2,), (2, None), (None, 1), (4, 1), (-1, 1), (2, "1"), 2]
        for value in any_values() + more:
            self.assertIs(is_barred(kind, one, other, value), repr(value) == "(2, 1)")
        kind, one, other = Kind("ring", 2), [1, 0], [0, 1]
        for value in any_values() + [(True, 1), (3, 3), (3, True), (-1, -1), (10 ** 29 + 1, 10 ** 29 + 1)]:
            right = (type(value) is tuple and len(value) == 2 and type(value[0]) is int and value[0] % 2 == 1
                     and type(value[1]) is int and value[1] == value[0])
            self.assertIs(is_barred(kind, one, other, value), right, value)

    def test_wrong_arguments(self):
        for kind, order, _ in GOOD:
            further = [("order", wrong) for wrong in wrong_orders(kind)]
            top = {"plain": kind.size(), "mirror": 2 * kind.size()}.get(kind.name())
            cut = ("cut", 1, InvalidNumber,
                   lambda _, value, top=top: type(value) is int and (top is None or 0 <= value <= top))
            told = [("kind", kind, *KIND), ("order", order, *ORDER), cut, ("number", 0, InvalidNumber, judge_whole)]
            self.assert_refusals(ahead, kind, told, further)


if __name__ == "__main__":
    unittest.main()
