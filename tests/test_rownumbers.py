"""Points 49 to 51: rows counted and numbered."""

import unittest

from seamlayers.beginnings import begins, how_many_beginnings
from seamlayers.errors import InvalidKind, InvalidNumber, InvalidOrder, InvalidRow, TooMany
from seamlayers.greedy import greedy_row
from seamlayers.kinds import Kind
from seamlayers.lower import how_many_beneath
from seamlayers.orders import falls, greatest
from seamlayers.rownumbers import fall_rule, first_with, how_many_rows, how_many_staying, last_staying, next_row
from seamlayers.rownumbers import row_number, row_numbered

from tests import beginreference, reference
from tests.support import Refusals, judge_count, judge_kind, judge_order, judge_row
from tests.test_beneath import great_orders, some_orders
from tests.test_orders import GOOD, ring_with, wrong_orders
from tests.test_rowmachines import tried
from tests.test_rows import wrong_rows

KIND = InvalidKind, judge_kind
ORDER = InvalidOrder, judge_order
ROW = InvalidRow, judge_row
COUNT = InvalidNumber, judge_count

# Orders that so many others begin.
MANY = [(Kind("ring", 4), [-9, 29, 8, -22], 999), (Kind("ring", 5), [-2, -18, -6, 20, 16], 1000)]
MORE = [(Kind("ring", 4), [29, 7, -24, -6], 1001), (Kind("plain", 7), [6, 5, 4, 3, 2, 1, 0], 5040),
        (Kind("mirror", 5), [-1, -2, -3, -4, -5], 3840)]


def judge_length(_kind, value):
    return type(value) is int and 0 <= value <= 100


def short(kind):
    """A length up to which there are not too many rows."""
    return {0: 2, 1: 9, 2: 8, 3: 6, 4: 5, 5: 4, 6: 4}[kind.steps()]


def rows_of(kind, length):
    """All rows of just so many steps, in order."""
    found = [[]]
    for _ in range(length):
        found = [row + [step] for row in found for step in range(kind.steps())]
    return found


def by_ends(kind, one, length):
    """A dict from orders, as tuples, to the rows of a length that come to them from another one, in order."""
    found = {}
    for row in rows_of(kind, length):
        found.setdefault(tuple(reference.gains(kind, one, row)), []).append(row)
    return found


def multiplied(rule):
    """How often each power of x is in the product that point 49 tells, from the lowest one on."""
    told = [1]
    for number, times in rule:
        for _ in range(times):
            told = [one - number * other for one, other in zip([0] + told, told + [0])]
    return told


def longest_chains(kind, one, order):
    """A dict from numbers of falls to how many orders with so many stand in one chain at most: all chains tried."""
    here = len(reference.falls_of(kind, list(one)))
    if tuple(one) == tuple(order):
        return [{here: 1}]
    found = []
    for step in range(kind.steps()):
        if not reference.crossed_at(kind, list(one), step):
            there = reference.step_done(kind, list(one), step)
            if tuple(there) in beginreference.begun_by(kind, order):
                for told in longest_chains(kind, there, order):
                    found.append({**told, here: told.get(here, 0) + 1})
    return found


class Counted(unittest.TestCase, Refusals):
    def test_against_all_short_rows(self):
        for kind in reference.all_kinds():
            few = some_orders(kind, 3)[:10]
            for one in few[::3]:
                for length in range(short(kind) + 1):
                    found = by_ends(kind, one, length)
                    for order in few + [list(there) for there in list(found)[-3:]]:
                        many = len(found.get(tuple(order), []))
                        self.assertEqual(how_many_rows(kind, one, order, length), many)

    def test_all_rows_of_a_length(self):
        for kind in reference.small_kinds():
            for length in range(short(kind)):
                found = by_ends(kind, kind.start(), length)
                told = sum(how_many_rows(kind, kind.start(), list(order), length) for order in found)
                self.assertEqual(told, kind.steps() ** length)

    def test_longer_rows_come_of_shorter_ones(self):
        for kind in reference.all_kinds():
            for order in tried(kind)[-3:]:
                begun = [list(one) for one in beginreference.begun_by(kind, order)]
                for first, second in ((3, 4), (10, 7), (40, 60)):
                    told = sum(how_many_rows(kind, kind.start(), one, first) * how_many_rows(kind, one, order, second)
                               for one in begun[:60])
                    if len(begun) <= 60:
                        self.assertEqual(how_many_rows(kind, kind.start(), order, first + second), told)

    def test_length_300(self):
        self.assertEqual(how_many_rows(Kind("plain", 3), [0, 1, 2], [1, 2, 0], 300), 299)
        # 2 ** 300 rows of two steps come to the greatest order, but for those that keep to one or two orders ahead.
        told = sum(how_many_rows(Kind("plain", 3), [0, 1, 2], order, 300)
                   for order in ([0, 1, 2], [1, 0, 2], [0, 2, 1], [1, 2, 0], [2, 0, 1], [2, 1, 0]))
        self.assertEqual(told, 2 ** 300)
        for kind in reference.all_kinds():
            for order in tried(kind)[-2:]:
                stays = how_many_rows(kind, order, order, 300)
                self.assertEqual(stays, len(falls(kind, order)) ** 300)

    def test_no_row_comes(self):
        plain = Kind("plain", 3)
        for length in (0, 1, 5, 300):
            self.assertEqual(how_many_rows(plain, [0, 2, 1], [1, 2, 0], length), 0)
            self.assertEqual(how_many_rows(plain, [1, 2, 0], [0, 1, 2], length), 0)
            self.assertEqual(how_many_rows(plain, [0, 1, 2], [0, 1, 2], length), 0 if length else 1)
        self.assertEqual([fall_rule(plain, [0, 2, 1], [1, 2, 0]), fall_rule(plain, [1, 2, 0], [0, 1, 2])], [[], []])

    def test_rules(self):
        for kind in reference.all_kinds():
            for order in tried(kind):
                begun = sorted(list(one) for one in beginreference.begun_by(kind, order))
                for one in begun[::1 + len(begun) // 6]:
                    rule = fall_rule(kind, one, order)
                    self.assertEqual(rule, sorted(rule))
                    times = multiplied(rule)
                    for length in (0, 1, 2, 9, 40):
                        told = [how_many_rows(kind, one, order, length + more) for more in range(len(times))]
                        self.assertEqual(sum(one * other for one, other in zip(times, told)), 0)

    def test_rules_against_all_chains(self):
        for kind in reference.all_kinds():
            chance = reference.Chance(kind.size())
            told = some_orders(kind, 3)[:8]
            told += [reference.row_done(kind, kind.start(), chance.least_row(kind, 6)) for _ in range(4)]
            for order in told:
                begun = sorted(beginreference.begun_by(kind, order))
                for one in begun[::1 + len(begun) // 4] + [tuple(kind.start()), tuple(order)]:
                    chains = longest_chains(kind, one, order)
                    numbers = {number for chain in chains for number in chain}
                    there = [(number, max(chain.get(number, 0) for chain in chains)) for number in sorted(numbers)]
                    self.assertEqual(fall_rule(kind, list(one), order), there)
                    self.assertTrue(all(type(entry) is tuple for entry in fall_rule(kind, list(one), order)))

    def test_a_thousand_beginnings_and_more(self):
        for kind, order, many in MANY:
            self.assertEqual(how_many_beginnings(kind, order), many)
            self.assertGreater(how_many_rows(kind, kind.start(), order, 70), 0)
            self.assertEqual(fall_rule(kind, kind.start(), order)[0], (0, 1))
            self.assertEqual(how_many_rows(kind, order, order, 1), len(falls(kind, order)))
        for kind, order, _ in MORE:
            # Also where few orders lie between, or none at all.
            for one in (kind.start(), order, reference.step_done(kind, order, reference.falls_of(kind, order)[0])):
                for function, more in ((how_many_rows, [0]), (how_many_rows, [300]), (fall_rule, [])):
                    with self.assertRaises(TooMany) as caught:
                        function(kind, one, order, *more)
                    self.assertEqual(caught.exception.value, 1001)
            with self.assertRaises(InvalidNumber):
                how_many_rows(kind, order, order, -1)
        kind, order, _ = MORE[0]
        apart = [reference.row_done(kind, kind.start(), [step, more]) for step in range(4) for more in range(4)]
        apart = [one for one in apart if not begins(kind, one, order)]
        self.assertTrue(apart)
        for one in apart:
            with self.assertRaises(TooMany):
                how_many_rows(kind, one, order, 3)

    def test_wrong_arguments(self):
        for kind, one, other in GOOD:
            further = [(name, wrong) for wrong in wrong_orders(kind) for name in ("one", "order")]
            told = [("kind", kind, *KIND), ("one", one, *ORDER), ("order", other, *ORDER)]
            self.assert_refusals(fall_rule, kind, told, further)
            self.assert_refusals(how_many_rows, kind, told + [("length", 2, *COUNT)], further)


class Numbered(unittest.TestCase, Refusals):
    def test_all_short_rows(self):
        for kind in reference.all_kinds():
            for length in range(short(kind) + 1):
                for order, told in by_ends(kind, kind.start(), length).items():
                    order = list(order)
                    self.assertEqual(first_with(kind, order, length), told[0])
                    for number, row in list(enumerate(told))[::1 + len(told) // 4]:
                        self.assertEqual(row_number(kind, row), number)
                        self.assertEqual(row_numbered(kind, order, length, number), row)
                        further = told[number + 1] if number + 1 < len(told) else None
                        self.assertEqual(next_row(kind, row), further)
                    self.assertEqual(row_numbered(kind, order, length, len(told) - 1), told[-1])
                    self.assertIsNone(next_row(kind, told[-1]))
                    for number in (len(told), len(told) + 1, 10 ** 30 - 1, -1):
                        self.assert_number_refused(kind, order, length, number)

    def assert_number_refused(self, kind, order, length, number):
        with self.assertRaises(InvalidNumber) as caught:
            row_numbered(kind, order, length, number)
        self.assertIs(caught.exception.value, number)

    def test_one_after_the_other(self):
        for kind, order, length in ((Kind("plain", 4), [2, 1, 0, 3], 6), (Kind("mirror", 2), [-1, -2], 7),
                                    (Kind("ring", 3), [-1, 0, 4], 9)):
            row, many = first_with(kind, order, length), 0
            while row is not None:
                self.assertEqual((row_number(kind, row), greedy_row(kind, row)), (many, order))
                many += 1
                further = next_row(kind, row)
                self.assertTrue(further is None or further > row)
                row = further
            self.assertEqual(many, how_many_rows(kind, kind.start(), order, length))

    def test_which_lengths_there_are(self):
        for kind in reference.all_kinds():
            for order in some_orders(kind, 4)[:30] + great_orders(kind)[1:3]:
                if how_many_beginnings(kind, order) > 1000:
                    continue
                many = len(reference.down(kind, order))
                for length in {0, 1, many - 1, many, many + 1, 100} - {-1}:
                    row = first_with(kind, order, length)
                    there = many <= length and (order != kind.start() or length == 0)
                    self.assertEqual(row is not None, there)
                    self.assertEqual(how_many_rows(kind, kind.start(), order, length) > 0, there)
                    if there:
                        self.assertEqual((len(row), reference.gains(kind, kind.start(), row)), (length, order))
                        self.assertEqual(row_numbered(kind, order, length, 0), row)
                        self.assertEqual(row_number(kind, row), 0)
                    else:
                        self.assert_number_refused(kind, order, length, 0)

    def test_rows_of_a_hundred_steps(self):
        for kind in reference.all_kinds():
            if kind.steps() == 0:
                continue
            for order in tried(kind)[1:]:
                many = how_many_rows(kind, kind.start(), order, 100)
                for number in sorted({0, many // 3, many - 1}):
                    row = row_numbered(kind, order, 100, number)
                    self.assertEqual((len(row), greedy_row(kind, row), row_number(kind, row)), (100, order, number))
                    further = None if number == many - 1 else row_numbered(kind, order, 100, number + 1)
                    self.assertEqual(next_row(kind, row), further)
                self.assert_number_refused(kind, order, 100, many)
                for wrong in (101, 102, 300, -1, True):
                    for function, more in ((first_with, []), (row_numbered, [0])):
                        with self.assertRaises(InvalidNumber) as caught:
                            function(kind, order, wrong, *more)
                        self.assertIs(caught.exception.value, wrong)
            for function in (row_number, next_row):
                with self.assertRaises(InvalidRow):
                    function(kind, [0] * 101)

    def test_no_steps(self):
        for kind in reference.all_kinds():
            start = kind.start()
            self.assertEqual([first_with(kind, start, 0), row_number(kind, []), next_row(kind, [])], [[], 0, None])
            self.assertEqual([row_numbered(kind, start, 0, 0), first_with(kind, start, 1)], [[], None])
            self.assertEqual([how_many_rows(kind, start, start, 0), how_many_rows(kind, start, start, 1)], [1, 0])

    def test_a_thousand_beginnings_and_more(self):
        for kind, order, _ in MANY:
            row = first_with(kind, order, 100)
            self.assertEqual((greedy_row(kind, row), row_number(kind, row)), (order, 0))
            self.assertEqual(row_number(kind, next_row(kind, row)), 1)
            self.assertEqual(row_numbered(kind, order, 100, 0), row)
            self.assertIsNone(first_with(kind, order, 5))
        for kind, order, _ in MORE:
            row = reference.down(kind, order)
            calls = [(first_with, order, 100), (first_with, order, 1), (row_numbered, order, 100, 0),
                     (row_numbered, order, 100, None), (row_number, row), (next_row, row)]
            for function, *arguments in calls:
                with self.assertRaises(TooMany) as caught:
                    function(kind, *arguments)
                self.assertEqual(caught.exception.value, 1001)

    def test_wrong_arguments(self):
        for kind, order, _ in GOOD:
            many = how_many_rows(kind, kind.start(), order, 5)
            further = [("order", wrong) for wrong in wrong_orders(kind)]
            further += [("length", 101), ("length", -1), ("number", many), ("number", -1)]
            told = [("kind", kind, *KIND), ("order", order, *ORDER), ("length", 5, InvalidNumber, judge_length)]
            self.assert_refusals(first_with, kind, told, further)
            number = ("number", 0, InvalidNumber, lambda kind, value: type(value) is int and 0 <= value < many)
            self.assert_refusals(row_numbered, kind, told + [number], further)
            told = [("kind", kind, *KIND), ("row", [0, 1], *ROW)]
            for function in (row_number, next_row):
                self.assert_refusals(function, kind, told, [("row", wrong) for wrong in wrong_rows(kind)])


class Staying(unittest.TestCase, Refusals):
    def test_against_all_short_rows(self):
        for kind in reference.all_kinds():
            for order in tried(kind):
                below = reference.made_by_parts(kind, reference.down(kind, order))
                for length in range(short(kind)):
                    told = [row for row in rows_of(kind, length)
                            if tuple(reference.gains(kind, kind.start(), row)) in below]
                    self.assertEqual(how_many_staying(kind, order, length), len(told))

    def test_all_parts_stay_beneath(self):
        for kind in reference.small_kinds():
            for order in tried(kind)[::3]:
                below = reference.made_by_parts(kind, reference.down(kind, order))
                told = [row for row in rows_of(kind, 4) if reference.made_by_parts(kind, row) <= below]
                self.assertEqual(how_many_staying(kind, order, 4), len(told))

    def test_sum_over_all_beneath(self):
        for kind in reference.all_kinds():
            for order in tried(kind)[-2:]:
                below = [list(one) for one in reference.made_by_parts(kind, reference.down(kind, order))]
                if len(below) <= 50:
                    for length in (7, 60):
                        told = sum(how_many_rows(kind, kind.start(), one, length) for one in below)
                        self.assertEqual(how_many_staying(kind, order, length), told)

    def test_the_start_and_the_greatest_order(self):
        for kind in reference.all_kinds():
            start = kind.start()
            self.assertEqual([how_many_staying(kind, start, length) for length in (0, 1, 300)], [1, 0, 0])
            if kind.name() != "ring" and sum(how_many_beneath(kind, greatest(kind))) <= 1000:
                told = [how_many_staying(kind, greatest(kind), length) for length in (0, 1, 5, 300)]
                self.assertEqual(told, [kind.steps() ** length for length in (0, 1, 5, 300)])

    def test_a_thousand_orders_beneath_and_more(self):
        for kind, order, many in BENEATH:
            self.assertEqual(sum(how_many_beneath(kind, order)), many)
            if many <= 1000:
                self.assertEqual(how_many_staying(kind, order, 1), len(set(reference.down(kind, order))))
                self.assertGreater(how_many_staying(kind, order, 300), how_many_staying(kind, order, 299))
            else:
                self.assert_too_many(kind, order)
        for kind, order in ((Kind("ring", 5), ring_with(5, 60)), (Kind("ring", 4), ring_with(4, 60)),
                            (Kind("plain", 7), [6, 5, 4, 3, 2, 1, 0])):
            self.assert_too_many(kind, order)
            with self.assertRaises(InvalidNumber):
                how_many_staying(kind, order, -1)

    def assert_too_many(self, kind, order):
        for length in (0, 300):
            with self.assertRaises(TooMany) as caught:
                how_many_staying(kind, order, length)
            self.assertEqual(caught.exception.value, 1001)

    def test_last_staying(self):
        for kind in reference.all_kinds():
            chance = reference.Chance(kind.size())
            rows = reference.rows_up_to(kind, 3)[::5] + [chance.row(kind, length) for length in (5, 9, 30, 100)]
            for order in some_orders(kind, 4)[::4] + tried(kind)[-3:]:
                below = reference.made_by_parts(kind, reference.down(kind, order))
                for row in rows:
                    there = [many for many in range(len(row) + 1)
                             if tuple(reference.gains(kind, kind.start(), row[:many])) in below]
                    self.assertEqual(last_staying(kind, order, row), there[-1])

    def test_last_staying_with_great_orders(self):
        for kind in reference.all_kinds():
            for order in great_orders(kind):
                row = reference.down(kind, order)
                self.assertEqual(last_staying(kind, order, row), len(row))
                self.assertEqual(last_staying(kind, order, row + row[-1:]), len(row) + len(row[-1:]))
                self.assertEqual([last_staying(kind, order, []), last_staying(kind, kind.start(), row)], [0, 0])
                if kind.name() == "ring":
                    rising = [step for step in range(kind.steps()) if step not in reference.falls_of(kind, order)]
                    for step in rising:
                        self.assertEqual(last_staying(kind, order, row + [step] + row[-1:]), len(row))

    def test_wrong_arguments(self):
        for kind, order, _ in GOOD:
            further = [("order", wrong) for wrong in wrong_orders(kind)]
            told = [("kind", kind, *KIND), ("order", order, *ORDER)]
            self.assert_refusals(how_many_staying, kind, told + [("length", 2, *COUNT)], further)
            further += [("row", wrong) for wrong in wrong_rows(kind)]
            self.assert_refusals(last_staying, kind, told + [("row", [0, 1], *ROW)], further)


# Orders with about as many beneath them as may be, and with more.
BENEATH = [(Kind("plain", 7), [2, 6, 1, 5, 4, 0, 3], 1008), (Kind("mirror", 5), [5, -2, 3, 1, -4], 996),
           (Kind("mirror", 5), [4, -5, -3, -2, 1], 1000), (Kind("ring", 3), [-21, 26, -2], 990), (Kind("ring", 3), [2, -23, 24], 1008),
           (Kind("ring", 4), [-1, -10, 5, 12], 996), (Kind("ring", 5), [3, -3, 4, -4, 10], 1008)]


if __name__ == "__main__":
    unittest.main()
