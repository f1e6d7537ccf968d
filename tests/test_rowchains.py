"""Points 15 and 16: changes of rows, and chains of them."""

import unittest

from seamlayers.errors import InvalidKind, InvalidRow, InvalidWay, TooMany
from seamlayers.kinds import Kind
from seamlayers.rowchains import is_row_chain, row_chain, row_changed, row_changes

from tests import reference
from tests.support import Refusals, any_values, judge_kind, judge_row
from tests.test_rows import wrong_rows

KIND = InvalidKind, judge_kind
ROW = InvalidRow, judge_row


def same(one, other):
    """Whether two values are equal and of the same kinds, also within."""
    return repr(one) == repr(other)


def rows_tried(kind):
    chance = reference.Chance(kind.size() * 3 + len(kind.name()))
    told = reference.rows_up_to(kind, 4)[:90]
    return told + [chance.row(kind, length) for length in (5, 6, 8, 12, 30)] + [chance.least_row(kind, 12)]


def wrong_changes(kind, row):
    """Near misses of changes of a row."""
    long, steps = len(row), kind.steps()
    wrong = [("in", long + 1, 0), ("in", -1, 0), ("in", 0, steps), ("in", 0, -1), ("in", 0), ("in", True, 0)]
    wrong += [("in", 0, True), ("in", 0, False), ("in", 0, None), ("in", "0", 0), ("in", 0, 0, 0), ["in", 0, 0]]
    wrong += [("out", -1), ("out", long), ("out", long - 1), ("turn", -1), ("turn", long), ("turn", long - 1)]
    wrong += [("out",), ("turn",), (), ("out", 0, 0), ("turn", 0, 0), ("out", None), ("turn", False), ("out", True)]
    wrong += [["out", 0], ["turn", 0], "out", "turn", ("Out", 0), ("", 0), (0, 0), (None, 0), (["out"], 0)]
    return wrong


class Changes(unittest.TestCase, Refusals):
    def test_row_changes(self):
        for kind in reference.all_kinds():
            for row in rows_tried(kind):
                told = sorted(change for change in reference.changes_of(kind, row) if change[0] != "in")
                self.assertEqual(row_changes(kind, row), told, (kind.name(), kind.size(), row))

    def test_row_changed(self):
        for kind in reference.all_kinds():
            for row in rows_tried(kind)[::5]:
                order = reference.row_done(kind, kind.start(), row)
                for change, changed in reference.changes_of(kind, row).items():
                    self.assertEqual(row_changed(kind, row, change), changed, (kind.name(), row, change))
                    self.assertEqual(reference.row_done(kind, kind.start(), changed), order)

    def test_no_turn_in_a_ring_of_two(self):
        kind = Kind("ring", 2)
        self.assertEqual(row_changes(kind, [0, 1] * 50), [])
        self.assertEqual(row_changes(kind, [0, 1, 1, 0]), [("out", 1)])
        for at in range(3):
            with self.assertRaises(InvalidWay):
                row_changed(kind, [0, 1, 0, 1], ("turn", at))

    def test_turns_of_four(self):
        kind = Kind("mirror", 3)
        self.assertEqual(row_changes(kind, [0, 1, 0, 1, 0, 2]), [("turn", 0), ("turn", 1), ("turn", 4)])
        self.assertEqual(row_changed(kind, [0, 1, 0, 1, 0, 2], ("turn", 1)), [0, 0, 1, 0, 1, 2])
        self.assertEqual(row_changes(kind, [0, 1, 0]), [])
        self.assertEqual(row_changed(kind, [1, 2, 1, 0], ("turn", 0)), [2, 1, 2, 0])

    def test_around_the_end_of_a_ring(self):
        kind = Kind("ring", 4)
        self.assertEqual(row_changed(kind, [3, 0, 3], ("turn", 0)), [0, 3, 0])
        self.assertEqual(row_changes(kind, [3, 1]), [("turn", 0)])

    def test_rows_of_just_a_hundred_steps(self):
        for kind in reference.all_kinds():
            if kind.steps() == 0:
                continue
            row = [0] * 98
            self.assertEqual(row_changed(kind, row, ("in", 98, 0)), [0] * 100)
            for length, at in ((99, 0), (99, 99), (100, 50), (100, 100)):
                with self.assertRaises(TooMany) as caught:
                    row_changed(kind, [0] * length, ("in", at, 0))
                self.assertEqual(caught.exception.value, length + 2)
            self.assertEqual(row_changed(kind, [0] * 100, ("out", 98)), [0] * 98)

    def test_no_change_comes_ahead_of_too_many(self):
        kind = Kind("plain", 3)
        for wrong in (("in", 101, 0), ("in", 0, 2), ("in", 0, True)):
            with self.assertRaises(InvalidWay) as caught:
                row_changed(kind, [0] * 100, wrong)
            self.assertIs(caught.exception.value, wrong)

    def test_wrong_changes(self):
        for kind in (Kind("plain", 1), Kind("plain", 2), Kind("plain", 4), Kind("mirror", 2), Kind("ring", 3)):
            chance = reference.Chance(kind.size())
            for row in ([], chance.row(kind, 1), chance.row(kind, 4), chance.least_row(kind, 5)):
                right = reference.changes_of(kind, row)
                for value in wrong_changes(kind, row) + any_values():
                    if not any(same(value, change) for change in right):
                        with self.assertRaises(InvalidWay) as caught:
                            row_changed(kind, row, value)
                        self.assertIs(caught.exception.value, value)

    def test_wrong_arguments(self):
        for kind in (Kind("plain", 3), Kind("mirror", 2), Kind("ring", 2)):
            further = [("row", wrong) for wrong in wrong_rows(kind)]
            told = [("kind", kind, *KIND), ("row", [0, 0, 1], *ROW)]
            self.assert_refusals(row_changes, kind, told, further)
            change = ("change", ("out", 0), InvalidWay, lambda kind, value: same(value, ("out", 0)) or is_in(value))
            self.assert_refusals(row_changed, kind, told + [change], further)


def is_in(value):
    return same(value, ("in", 0, 0))


class Chains(unittest.TestCase, Refusals):
    def check(self, kind, one, other):
        told = row_chain(kind, one, other)
        alike = reference.row_done(kind, kind.start(), one) == reference.row_done(kind, kind.start(), other)
        if not alike:
            self.assertIsNone(told)
            return
        self.assertIs(type(told), list)
        row, seen_in = one, False
        for change in told:
            self.assertIs(type(change), tuple)
            self.assertFalse(seen_in and change[0] == "out")
            seen_in = seen_in or change[0] == "in"
            row = row_after(kind, row, change)
            self.assertLessEqual(len(row), max(len(one), len(other)))
        self.assertEqual(row, other)
        self.assertIs(is_row_chain(kind, one, other, told), True)
        if reference.is_least(kind, one) and reference.is_least(kind, other):
            self.assertTrue(all(change[0] == "turn" for change in told))

    def test_all_pairs_of_short_rows(self):
        for kind in reference.small_kinds():
            told = reference.rows_up_to(kind, 4)[:50]
            for one in told:
                for other in told:
                    self.check(kind, one, other)

    def test_all_least_rows_of_an_order(self):
        for kind in (Kind("plain", 4), Kind("mirror", 3), Kind("ring", 4), Kind("ring", 3), Kind("plain", 5)):
            chance = reference.Chance(kind.size())
            for _ in range(4):
                order = chance.order(kind, 9)
                told = reference.least_rows(kind, order)[:12]
                for one in told:
                    for other in told:
                        self.check(kind, one, other)

    def test_rows_of_twelve_steps(self):
        for kind in reference.all_kinds():
            chance = reference.Chance(12 * kind.size())
            for _ in range(12 if kind.steps() else 0):
                one = chance.row(kind, 12)
                other = reference.down(kind, reference.row_done(kind, kind.start(), one))
                self.check(kind, one, other)
                self.check(kind, other, one)
                self.check(kind, one, scrambled(kind, chance, one))
                self.check(kind, one, chance.row(kind, 12))

    def test_least_rows_of_twelve_steps(self):
        for kind in reference.all_kinds():
            chance = reference.Chance(144 + kind.size())
            for _ in range(12):
                one = chance.least_row(kind, 12)
                order = reference.row_done(kind, kind.start(), one)
                self.check(kind, one, reference.down(kind, order))
                self.check(kind, one, reference.least_rows(kind, order)[-1] if kind.size() < 4 else one)

    def test_a_row_and_itself(self):
        for kind in reference.all_kinds():
            chance = reference.Chance(kind.size())
            for row in ([], chance.row(kind, 5), chance.row(kind, 12)):
                self.check(kind, row, row)

    def test_rows_of_two_in_a_ring(self):
        kind = Kind("ring", 2)
        self.assertIsNone(row_chain(kind, [0, 1], [1, 0]))
        self.assertEqual(row_chain(kind, [0, 0], []), [("out", 0)])
        self.check(kind, [0, 1, 1, 0, 1, 0, 0, 1], [])

    def test_wrong_arguments(self):
        for kind in (Kind("plain", 3), Kind("mirror", 2), Kind("ring", 2)):
            further = [(name, wrong) for name in ("one", "other") for wrong in wrong_rows(kind)]
            told = [("kind", kind, *KIND), ("one", [0, 1], *ROW), ("other", [0, 1, 1, 1], *ROW)]
            self.assert_refusals(row_chain, kind, told, further)
            self.assert_refusals(is_row_chain, kind, told + [("value", [], None, None)], further)


def row_after(kind, row, change):
    """The row behind a change, as the reference tells it; a KeyError if it is none."""
    return reference.changes_of(kind, row)[change]


def scrambled(kind, chance, row):
    """A row of at most twelve steps that some changes make of a row."""
    for _ in range(20):
        found = [changed for _, changed in sorted(reference.changes_of(kind, row).items()) if len(changed) <= 12]
        row = found[chance.below(len(found))] if found else row
    return row


class IsRowChain(unittest.TestCase):
    def test_any_value(self):
        for kind in reference.all_kinds():
            row = [0] if kind.steps() else []
            for value in any_values():
                self.assertIs(is_row_chain(kind, row, row, value), type(value) is list and value == [])
                if kind.steps():
                    self.assertIs(is_row_chain(kind, [], row, value), False)

    def test_changes_of_whatever_kind(self):
        kind = Kind("plain", 3)
        for value, right in [
                ([("in", 0, 1), ("out", 0)], True), ([("in", 2, 0), ("in", 0, 1), ("out", 0), ("out", 2)], True),
                ([("in", 0, 1)], False), ([("out", 0)], False), ([("in", 0, 1), ("out", 1)], False),
                ([("in", 0, 1), None], False), ([("in", 0, 1), ["out", 0]], False), ((("in", 0, 1), ("out", 0)), False),
                ([("in", 0, True), ("out", 0)], False), ([("in", 3, 1), ("out", 3)], False)]:
            self.assertIs(is_row_chain(kind, [0, 1], [0, 1], value), right, value)

    def test_each_list_of_two_changes(self):
        for kind in (Kind("plain", 3), Kind("mirror", 2), Kind("ring", 2), Kind("ring", 3)):
            for row in ([0, 1, 0], [0, 0, 1, 0, 1], [1, 0, 1, 0]):
                for first, between in reference.changes_of(kind, row).items():
                    for second, last in reference.changes_of(kind, between).items():
                        self.assertIs(is_row_chain(kind, row, last, [first, second]), True)
                        self.assertIs(is_row_chain(kind, row, last + [0], [first, second]), False)
                        self.assertIs(is_row_chain(kind, row, between, [first, second]), between == last)

    def test_rows_of_at_most_a_hundred_steps(self):
        kind = Kind("ring", 3)
        for length, right in ((97, True), (98, True), (99, False), (100, False)):
            row = [0] * length
            self.assertIs(is_row_chain(kind, row, row, [("in", 0, 1), ("out", 0)]), right)
            self.assertIs(is_row_chain(kind, row, row, []), True)
            self.assertIs(is_row_chain(kind, row, row, [("out", 0), ("in", 0, 0)]), True)

    def test_long_rows_and_long_chains(self):
        kind = Kind("mirror", 5)
        row = [0, 1, 0, 1] * 25
        self.assertIs(is_row_chain(kind, row, row, [("turn", 0)] * 1000), True)
        self.assertIs(is_row_chain(kind, row, row, [("turn", 0)] * 1001), False)

    def test_not_alike(self):
        kind = Kind("plain", 3)
        self.assertIs(is_row_chain(kind, [0], [1], []), False)
        self.assertIs(is_row_chain(kind, [0], [1], [("in", 0, 1)]), False)


if __name__ == "__main__":
    unittest.main()
