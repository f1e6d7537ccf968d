"""Points 13 and 14: least rows."""

import unittest

from seamlayers.errors import InvalidKind, InvalidNumber, InvalidOrder, InvalidRow, TooMany
from seamlayers.kinds import Kind
from seamlayers.leastrows import how_many_least, least_number, least_numbered, least_row, next_least
from seamlayers.orders import crossings, greatest
from seamlayers.rows import is_least, made

from tests import reference
from tests.support import Refusals, judge_count, judge_kind, judge_order
from tests.test_orders import GOOD, ring_with, wrong_orders
from tests.test_rows import judge_least, wrong_rows

KIND = InvalidKind, judge_kind
ORDER = InvalidOrder, judge_order
LEAST = InvalidRow, judge_least

# Orders from which heads lead to as many orders as told, themselves among them.
INTERVALS = [
    (Kind("ring", 4), [33, -24, 3, -6], 1000), (Kind("ring", 4), [26, -28, 11, -3], 1001),
    (Kind("ring", 5), [2, 19, -9, -10, 8], 1000), (Kind("ring", 5), [4, -3, -12, 26, -5], 1001),
    (Kind("plain", 7), [4, 5, 6, 3, 2, 1, 0], 840), (Kind("plain", 7), [6, 5, 0, 4, 3, 2, 1], 1008),
    (Kind("mirror", 5), [2, 1, -3, -4, -5], 960), (Kind("mirror", 5), [3, -1, -2, -4, -5], 1120),
]


def tried(kind):
    """Orders with few least rows."""
    return [order for _, order, _ in reference.orders_up_to(kind, 6)[:70]]


class LeastRows(unittest.TestCase):
    def test_all_least_rows_in_order(self):
        for kind in reference.all_kinds():
            for order in tried(kind):
                rows = reference.least_rows(kind, order)
                self.assertEqual(how_many_least(kind, order), len(rows))
                self.assertEqual(least_row(kind, order), rows[0])
                for number, row in enumerate(rows):
                    self.assertEqual(least_number(kind, row), number)
                    self.assertEqual(least_numbered(kind, order, number), row)
                    self.assertEqual(next_least(kind, row), (rows + [None])[number + 1])

    def test_greatest_orders_of_small_kinds(self):
        told = {("plain", 4): 16, ("mirror", 2): 2, ("mirror", 3): 42, ("plain", 5): 768}
        for (name, size), many in told.items():
            kind = Kind(name, size)
            order = greatest(kind)
            rows = reference.least_rows(kind, order)
            self.assertEqual([len(rows), how_many_least(kind, order)], [many, many])
            row, walked = least_row(kind, order), []
            while row is not None:
                walked.append(row)
                row = next_least(kind, row)
            self.assertEqual(walked, rows)
            for number in range(0, many, 7):
                self.assertEqual(least_numbered(kind, order, number), rows[number])
                self.assertEqual(least_number(kind, rows[number]), number)

    def test_the_start(self):
        for kind in reference.all_kinds():
            start = kind.start()
            self.assertEqual([least_row(kind, start), how_many_least(kind, start)], [[], 1])
            self.assertEqual([least_number(kind, []), least_numbered(kind, start, 0), next_least(kind, [])], [0, [], None])

    def test_first_of_great_orders(self):
        for kind in reference.all_kinds():
            order = ring_with(kind.size(), 60) if kind.name() == "ring" else greatest(kind)
            row = least_row(kind, order)
            self.assertEqual(reference.row_done(kind, kind.start(), row), order)
            self.assertEqual(len(row), crossings(kind, order))
            # The first row begins with the least head each time, whatever comes.
            turned = reference.row_done(kind, kind.start(), row[::-1])
            for step in row:
                self.assertEqual(min(reference.falls_of(kind, turned)), step)
                turned = reference.step_done(kind, turned, step)

    def test_great_numbers(self):
        kind = Kind("plain", 6)
        order = greatest(kind)
        many = how_many_least(kind, order)
        self.assertEqual(many, 292864)
        last = least_numbered(kind, order, many - 1)
        self.assertEqual([made(kind, last), least_number(kind, last), next_least(kind, last)], [order, many - 1, None])
        for number in (0, 1, 77777, 146432):
            row = least_numbered(kind, order, number)
            self.assertEqual(least_number(kind, row), number)
            self.assertEqual(least_number(kind, next_least(kind, row)), number + 1)

    def test_rows_of_a_hundred_steps(self):
        for size in range(2, 6):
            kind = Kind("ring", size)
            row = [at % size for at in range(100)]
            self.assertTrue(is_least(kind, row))
            self.assertEqual([next_least(kind, row), least_number(kind, row)], [None, 0])
        kind = Kind("ring", 3)
        row = [0, 1, 0] + [(at + 2) % 3 for at in range(97)]
        self.assertTrue(reference.is_least(kind, row))
        further = next_least(kind, row)
        self.assertEqual(reference.row_done(kind, kind.start(), further), reference.row_done(kind, kind.start(), row))
        self.assertEqual(least_number(kind, further), least_number(kind, row) + 1)


class HowFar(unittest.TestCase):
    def test_just_a_thousand_orders_and_more(self):
        for kind, order, many in INTERVALS:
            self.assertEqual(reference.come_to_by_heads(kind, order, 2000), many)
            row = reference.down(kind, order)
            if many <= 1000:
                found = how_many_least(kind, order)
                self.assertEqual(least_number(kind, least_numbered(kind, order, found - 1)), found - 1)
                with self.assertRaises(InvalidNumber):
                    least_numbered(kind, order, found)
                self.assertTrue(0 <= least_number(kind, row) < found)
                continue
            for function, arguments in [(how_many_least, (order,)), (least_number, (row,)),
                                        (least_numbered, (order, 0)), (least_numbered, (order, 10 ** 29))]:
                with self.assertRaises(TooMany) as caught:
                    function(kind, *arguments)
                self.assertEqual(caught.exception.value, 1001)

    def test_not_for_the_first_and_the_next(self):
        for kind, order, _ in INTERVALS + [(Kind("plain", 7), [6, 5, 4, 3, 2, 1, 0], None),
                                           (Kind("mirror", 5), [-1, -2, -3, -4, -5], None)]:
            row = least_row(kind, order)
            further = next_least(kind, row)
            self.assertEqual(made(kind, further), order)
            self.assertEqual(len(further), len(row))
            self.assertGreater(further, row)

    def test_next_among_many(self):
        kind = Kind("plain", 7)
        row = least_row(kind, greatest(kind))
        for _ in range(60):
            further = next_least(kind, row)
            self.assertEqual(further, next_by_hand(kind, row))
            row = further


def next_by_hand(kind, row):
    """The least row behind one: the longest beginning that stays, then the least that can follow."""
    order = reference.row_done(kind, kind.start(), row)
    for at in range(len(row) - 1, -1, -1):
        for step in range(row[at] + 1, kind.steps()):
            begun = row[:at] + [step]
            ahead = reference.row_done(kind, kind.start(), begun[::-1])
            rest = reference.row_done(kind, ahead, reference.down(kind, order))
            if len(reference.down(kind, rest)) == len(row) - len(begun):
                return begun + least_row(kind, rest)
    return None


class Wrong(unittest.TestCase, Refusals):
    def test_orders(self):
        for kind, order, _ in GOOD:
            further = [("order", wrong) for wrong in wrong_orders(kind)]
            for function in (least_row, how_many_least):
                self.assert_refusals(function, kind, [("kind", kind, *KIND), ("order", order, *ORDER)], further)
            told = [("kind", kind, *KIND), ("order", order, *ORDER), ("number", 0, InvalidNumber, judge_count)]
            self.assert_refusals(least_numbered, kind, told, further)

    def test_rows(self):
        for kind, row in [(Kind("plain", 3), [0, 1]), (Kind("mirror", 2), [0, 1, 0]), (Kind("ring", 3), [2, 0, 1])]:
            further = [("row", wrong) for wrong in wrong_rows(kind) + [[0, 0], [0, 1, 1, 0], [1, 0, 0]]]
            for function in (least_number, next_least):
                self.assert_refusals(function, kind, [("kind", kind, *KIND), ("row", row, *LEAST)], further)

    def test_numbers_just_below_and_at_how_many_there_are(self):
        for kind in reference.all_kinds():
            for order in tried(kind)[-5:] + [kind.start()]:
                many = how_many_least(kind, order)
                self.assertEqual(least_number(kind, least_numbered(kind, order, many - 1)), many - 1)
                for number in (many, many + 1, 10 ** 29):
                    with self.assertRaises(InvalidNumber) as caught:
                        least_numbered(kind, order, number)
                    self.assertIs(caught.exception.value, number)

    def test_no_count_comes_ahead_of_too_many(self):
        kind = Kind("plain", 7)
        for wrong in (-1, True, None, [0], "0", (0,), kind, 1 - 10 ** 30):
            with self.assertRaises(InvalidNumber) as caught:
                least_numbered(kind, greatest(kind), wrong)
            self.assertIs(caught.exception.value, wrong)
        with self.assertRaises(TooMany):
            least_numbered(kind, greatest(kind), 0)

    def test_no_least_row_comes_ahead_of_too_many(self):
        kind = Kind("plain", 7)
        row = least_row(kind, greatest(kind)) + [0]
        with self.assertRaises(InvalidRow) as caught:
            least_number(kind, row)
        self.assertIs(caught.exception.value, row)
        with self.assertRaises(TooMany):
            least_number(kind, row[:-1])


if __name__ == "__main__":
    unittest.main()
