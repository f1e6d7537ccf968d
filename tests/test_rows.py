"""Points 10, 11 and 12: rows, and what they cross."""

import itertools
import unittest

from seamlayers.errors import InvalidKind, InvalidNumber, InvalidOrder, InvalidRow
from seamlayers.kinds import Kind
from seamlayers.orders import greatest
from seamlayers.rows import alike, crossed, crossed_in, is_least, is_least_part, is_row, least_part, made, out_for

from tests import reference
from tests.support import Refusals, any_values, judge_kind, judge_order, judge_row
from tests.test_orders import GOOD, ring_with, wrong_orders

KIND = InvalidKind, judge_kind
ROW = InvalidRow, judge_row


def wrong_rows(kind):
    """Near misses of rows."""
    steps = list(range(kind.steps()))
    wrong = [[kind.steps()], [-1], steps + [kind.steps()], tuple(steps), {step: step for step in steps}]
    wrong += [[True], [0, False], [None], [[]], ["0"], [0] * 101, [0] * 100 + [kind.steps()], (), [(0,)]]
    return wrong


def rows_tried(kind):
    """Rows of all sorts: all short ones, long ones, and the longest."""
    chance = reference.Chance(kind.size() * 7 + len(kind.name()))
    told = reference.rows_up_to(kind, 3)[:60]
    told += [chance.row(kind, length) for length in (4, 5, 7, 9, 12, 20)]
    told += [chance.row(kind, 100)] if kind.steps() else []
    return told + [chance.least_row(kind, length) for length in (3, 6, 10, 15)]


def judge_least(kind, value):
    return reference.is_row(kind, value) and reference.is_least(kind, value)


class IsRow(unittest.TestCase):
    def test_any_value(self):
        for kind in reference.all_kinds():
            for value in any_values() + wrong_rows(kind):
                self.assertIs(is_row(kind, value), reference.is_row(kind, value), (kind.name(), value))

    def test_lengths(self):
        for kind in reference.all_kinds():
            self.assertIs(is_row(kind, []), True)
            for step in range(kind.steps()):
                self.assertIs(is_row(kind, [step] * 100), True)
                self.assertIs(is_row(kind, [step] * 101), False)
            self.assertIs(is_row(kind, [kind.steps()]), False)
            self.assertIs(is_row(kind, [True] if kind.steps() > 1 else [False]), False)

    def test_wrong_kind(self):
        for wrong in any_values():
            if not isinstance(wrong, Kind):
                for value in ([0], None, wrong):
                    with self.assertRaises(InvalidKind) as caught:
                        is_row(wrong, value)
                    self.assertIs(caught.exception.value, wrong)


class Made(unittest.TestCase, Refusals):
    def test_made(self):
        for kind in reference.all_kinds():
            for row in rows_tried(kind):
                self.assertEqual(made(kind, row), reference.row_done(kind, kind.start(), row))

    def test_a_hundred_crossings(self):
        for size in range(2, 6):
            self.assertEqual(made(Kind("ring", size), [at % size for at in range(100)]), ring_with(size, 100))

    def test_alike(self):
        for kind in reference.small_kinds():
            told = reference.rows_up_to(kind, 3)[:30]
            for one, other in itertools.product(told, repeat=2):
                same = reference.row_done(kind, kind.start(), one) == reference.row_done(kind, kind.start(), other)
                self.assertIs(alike(kind, one, other), same, (kind.name(), one, other))

    def test_wrong_arguments(self):
        for kind, _, _ in GOOD:
            further = [(name, wrong) for name in ("row", "one", "other") for wrong in wrong_rows(kind)]
            for function in (made, crossed, is_least, least_part):
                self.assert_refusals(function, kind, [("kind", kind, *KIND), ("row", [0, 1], *ROW)], further)
            self.assert_refusals(
                alike, kind, [("kind", kind, *KIND), ("one", [0, 1], *ROW), ("other", [], *ROW)], further)


class Crossed(unittest.TestCase, Refusals):
    def test_crossed(self):
        for kind in reference.all_kinds():
            for row in rows_tried(kind):
                self.assertEqual(crossed(kind, row), reference.pairs_crossed(kind, row), (kind.name(), row))

    def test_told_rows(self):
        self.assertEqual(crossed(Kind("mirror", 1), [0, 0]), [(-1, 1), (-1, 1)])
        self.assertEqual(crossed(Kind("mirror", 3), [1, 0, 2, 1]), [(1, 2), (-2, 2), (1, 3), (-2, 3)])
        self.assertEqual(crossed(Kind("ring", 2), [1, 0, 1]), [(1, 2), (1, 4), (1, 6)])
        self.assertEqual(crossed(Kind("plain", 4), [2, 1, 2, 2]), [(2, 3), (1, 3), (1, 2), (1, 2)])
        self.assertEqual(crossed(Kind("plain", 1), []), [])

    def test_crossed_in_is_the_same_for_all_least_rows(self):
        for kind in reference.all_kinds():
            for _, order, _ in reference.orders_up_to(kind, 5)[:80]:
                told = crossed_in(kind, order)
                for row in reference.least_rows(kind, order):
                    self.assertEqual(told, sorted(reference.pairs_crossed(kind, row)))

    def test_crossed_in_great_orders(self):
        for kind in reference.all_kinds():
            order = ring_with(kind.size(), 60) if kind.name() == "ring" else greatest(kind)
            self.assertEqual(crossed_in(kind, order), sorted(reference.pairs_crossed(kind, reference.down(kind, order))))
            self.assertEqual(crossed_in(kind, kind.start()), [])

    def test_crossed_an_odd_number_of_times(self):
        for kind in reference.all_kinds():
            for row in rows_tried(kind):
                order = made(kind, row)
                told = crossed(kind, row)
                odd = sorted({pair for pair in told if told.count(pair) % 2})
                if is_told(kind, order):
                    self.assertEqual(crossed_in(kind, order), odd)
                self.assertIs(is_least(kind, row), len(set(told)) == len(told))
                self.assertIs(is_least(kind, row), reference.is_least(kind, row))

    def test_least_rows_of_just_a_hundred_steps(self):
        for size in range(2, 6):
            self.assertIs(is_least(Kind("ring", size), [at % size for at in range(100)]), True)
            self.assertIs(is_least(Kind("ring", size), [at % size for at in range(99)] + [98 % size]), False)

    def test_wrong_order(self):
        for kind, order, _ in GOOD:
            further = [("order", wrong) for wrong in wrong_orders(kind)]
            self.assert_refusals(
                crossed_in, kind, [("kind", kind, *KIND), ("order", order, InvalidOrder, judge_order)], further)


def is_told(kind, order):
    return len(reference.down(kind, order)) <= 60


class LeastPart(unittest.TestCase):
    def check(self, kind, row):
        told = least_part(kind, row)
        self.assertIs(type(told), list)
        self.assertTrue(all(reference.is_whole(place) and 0 <= place < len(row) for place in told))
        self.assertEqual(told, sorted(set(told)))
        steps = [row[place] for place in told]
        order = reference.row_done(kind, kind.start(), row)
        self.assertEqual(reference.row_done(kind, kind.start(), steps), order)
        self.assertEqual(len(steps), len(reference.down(kind, order)))
        self.assertEqual((len(row) - len(steps)) % 2, 0)
        self.assertIs(is_least_part(kind, row, told), True)

    def test_many_rows(self):
        for kind in reference.all_kinds():
            for row in rows_tried(kind):
                self.check(kind, row)

    def test_rows_of_twelve_steps(self):
        for kind in reference.all_kinds():
            chance = reference.Chance(12 + kind.size())
            for _ in range(40 if kind.steps() else 0):
                self.check(kind, chance.row(kind, 12))

    def test_rows_of_a_hundred_steps(self):
        for kind in reference.all_kinds():
            chance = reference.Chance(100 + kind.size())
            for _ in range(5 if kind.steps() else 0):
                self.check(kind, chance.row(kind, 100))
            if kind.name() == "ring":
                least = [at % kind.size() for at in range(100)]
                self.assertEqual(least_part(kind, least), list(range(100)))
                self.assertEqual(least_part(kind, least[:50] + least[:50][::-1]), [])

    def test_all_lists_of_places(self):
        for kind in reference.small_kinds():
            chance = reference.Chance(kind.size())
            for row in [chance.row(kind, 6) for _ in range(4)] + [chance.least_row(kind, 4), []]:
                order = reference.row_done(kind, kind.start(), row)
                for places in reference.subsets(list(range(len(row)))):
                    steps = [row[place] for place in places]
                    right = reference.row_done(kind, kind.start(), steps) == order and reference.is_least(kind, steps)
                    self.assertIs(is_least_part(kind, row, places), right, (kind.name(), row, places))

    def test_wrong_lists_of_places(self):
        kind, row = Kind("plain", 3), [0, 1, 0, 1]
        self.assertEqual([is_least_part(kind, row, value) for value in ([1, 2], [2, 1], (1, 2), [1, 1, 2], [1, 2, 4])],
                         [True, False, False, False, False])
        self.assertIs(is_least_part(kind, row, [True, 2]), False)
        self.assertIs(is_least_part(kind, row, [-3, 2]), False)
        self.assertIs(is_least_part(kind, [0, 1], [0, -1]), False)
        self.assertIs(is_least_part(kind, [0], [False]), False)
        self.assertIs(is_least_part(kind, [0], [0, 0]), False)
        for kind in reference.all_kinds():
            for value in any_values():
                self.assertIs(is_least_part(kind, [], value), shape_is_empty_list(value))

    def test_errors_come_first(self):
        kind = Kind("plain", 3)
        for wrong in wrong_rows(kind):
            with self.assertRaises(InvalidRow) as caught:
                is_least_part(kind, wrong, None)
            self.assertIs(caught.exception.value, wrong)
        for wrong in any_values():
            if not isinstance(wrong, Kind):
                with self.assertRaises(InvalidKind):
                    is_least_part(wrong, [None], None)


def shape_is_empty_list(value):
    return type(value) is list and value == []


class OutFor(unittest.TestCase, Refusals):
    def test_all_falls(self):
        for kind in reference.all_kinds():
            chance = reference.Chance(kind.size() + 40)
            for row in [chance.least_row(kind, length) for length in (0, 1, 2, 3, 5, 8, 13, 20)]:
                order = reference.row_done(kind, kind.start(), row)
                for step in reference.falls_of(kind, order):
                    fits = [at for at in range(len(row))
                            if reference.row_done(kind, kind.start(), row[:at] + row[at + 1:] + [step]) == order]
                    self.assertEqual([out_for(kind, row, step)], fits)

    def test_rows_of_just_a_hundred_steps(self):
        for size in range(2, 6):
            row = [at % size for at in range(100)]
            self.assertEqual(out_for(Kind("ring", size), row, row[-1]), 99)

    def test_wrong_arguments(self):
        for kind, row in [(Kind("plain", 3), [0, 1]), (Kind("mirror", 2), [0, 1]), (Kind("ring", 3), [2, 0, 1]),
                          (Kind("ring", 2), [0, 1])]:
            further = [("row", wrong) for wrong in wrong_rows(kind) + [[0, 0], [0, 1, 1, 0], [1, 0, 0]]]
            further += [("step", wrong) for wrong in (0, kind.steps(), -1, [1], True, False)]
            self.assert_refusals(out_for, kind, [
                ("kind", kind, *KIND), ("row", row, InvalidRow, judge_least),
                ("step", 1, InvalidNumber, lambda kind, value: reference.is_whole(value) and value == 1)], further)

    def test_no_fall_of_the_empty_row(self):
        for kind in reference.all_kinds():
            for step in (0, None, kind.steps()):
                with self.assertRaises(InvalidNumber):
                    out_for(kind, [], step)


if __name__ == "__main__":
    unittest.main()
