"""Point 21: rows that are greedily alike, and chains of them."""

import unittest

from seamlayers.errors import InvalidKind, InvalidRow
from seamlayers.greedychains import chain, greedily_alike, is_chain
from seamlayers.kinds import Kind

from tests import reference
from tests.support import Refusals, any_values, judge_kind, judge_row
from tests.test_rows import wrong_rows

KIND = InvalidKind, judge_kind
ROW = InvalidRow, judge_row
KINDS = (Kind("plain", 3), Kind("mirror", 2), Kind("ring", 2), Kind("ring", 3))


def judge_short(kind, value):
    return reference.is_row(kind, value) and len(value) <= 12


def greedy_row(kind, row):
    return reference.gains(kind, kind.start(), row)


def greedy_changes(kind, row):
    """The rows that come of a row by one greedy change."""
    found = [row[:at] + [row[at]] + row[at:] for at in range(len(row))]
    lengths = reference.turn_lengths(kind)
    for at in range(len(row) - 1):
        one, other = row[at], row[at + 1]
        if one == other:
            found.append(row[:at] + row[at + 1:])
            continue
        many = lengths[one, other]
        if many and row[at:at + many] == [(one, other)[place % 2] for place in range(many)]:
            found.append(row[:at] + [(other, one)[place % 2] for place in range(many)] + row[at + many:])
    return found


def shaken(kind, chance, row, times=25):
    """A row of at most twelve steps that greedy changes make of a row."""
    for _ in range(times):
        found = [one for one in greedy_changes(kind, row) if len(one) <= 12]
        row = found[chance.below(len(found))] if found else row
    return row


class Alike(unittest.TestCase, Refusals):
    def test_all_pairs_of_short_rows(self):
        for kind in reference.small_kinds():
            told = reference.rows_up_to(kind, 4)[:60]
            for one in told:
                for other in told:
                    right = greedy_row(kind, one) == greedy_row(kind, other)
                    self.assertIs(greedily_alike(kind, one, other), right)

    def test_rows_of_a_hundred_steps(self):
        for kind in reference.all_kinds():
            chance = reference.Chance(100 + kind.size())
            one = chance.row(kind, 100)
            for other in (chance.row(kind, 100), one, one[::-1], one[:99]):
                right = greedy_row(kind, one) == greedy_row(kind, other)
                self.assertIs(greedily_alike(kind, one, other), right)

    def test_alike_is_not_greedily_alike(self):
        kind = Kind("plain", 3)
        self.assertIs(greedily_alike(kind, [0, 0], []), False)
        self.assertIs(greedily_alike(kind, [0, 0], [0]), True)

    def test_changes_leave_the_greedy_row(self):
        for kind in KINDS:
            for row in reference.rows_up_to(kind, 4):
                for changed in greedy_changes(kind, row):
                    self.assertIs(greedily_alike(kind, row, changed), True)

    def test_wrong_arguments(self):
        for kind in KINDS:
            further = [(name, wrong) for name in ("one", "other") for wrong in wrong_rows(kind)]
            told = [("kind", kind, *KIND), ("one", [0, 1], *ROW), ("other", [0, 1, 1, 1], *ROW)]
            self.assert_refusals(greedily_alike, kind, told, further)


class Chains(unittest.TestCase, Refusals):
    def check(self, kind, one, other):
        found = chain(kind, one, other)
        if greedy_row(kind, one) != greedy_row(kind, other):
            self.assertIsNone(found)
            return
        self.assertIs(type(found), list)
        self.assertEqual([found[0], found[-1]], [one, other])
        for row, further in zip(found, found[1:]):
            self.assertIn(further, greedy_changes(kind, row), (kind.name(), kind.size(), one, other))
        self.assertTrue(all(reference.is_row(kind, row) for row in found))
        self.assertIs(is_chain(kind, one, other, found), True)

    def test_all_pairs_of_short_rows(self):
        for kind in reference.small_kinds():
            told = reference.rows_up_to(kind, 4)[:70]
            for one in told:
                for other in told:
                    self.check(kind, one, other)

    def test_rows_of_twelve_steps(self):
        for kind in reference.all_kinds():
            chance = reference.Chance(21 * kind.size() + len(kind.name()))
            for _ in range(12):
                one = chance.row(kind, 12)
                least = reference.down(kind, greedy_row(kind, one))
                for other in (least, shaken(kind, chance, one), shaken(kind, chance, least), chance.row(kind, 12)):
                    self.check(kind, one, other)
                    self.check(kind, other, one)

    def test_least_rows_of_twelve_steps(self):
        for kind in reference.all_kinds():
            chance = reference.Chance(2100 + kind.size())
            for _ in range(12):
                one = chance.least_row(kind, 12)
                self.check(kind, one, reference.down(kind, greedy_row(kind, one)))
                self.check(kind, one, shaken(kind, chance, one))

    def test_a_row_and_itself(self):
        for kind in reference.all_kinds():
            chance = reference.Chance(kind.size())
            for row in ([], chance.row(kind, 5), chance.row(kind, 12)):
                self.check(kind, row, row)

    def test_a_ring_of_two(self):
        kind = Kind("ring", 2)
        self.assertIsNone(chain(kind, [0, 1, 0, 1], [1, 0, 1, 0]))
        self.assertIs(is_chain(kind, [0, 1, 0, 1], [1, 0, 1, 0], [[0, 1, 0, 1], [1, 0, 1, 0]]), False)
        self.check(kind, [0, 0, 1, 1, 0, 0, 0, 1, 1], [0, 1, 0, 1])

    def test_rows_of_twelve_and_of_thirteen_steps(self):
        for kind in KINDS:
            right, wrong = [0] * 12, [0] * 13
            self.check(kind, right, [0])
            for function, more in ((chain, []), (is_chain, [[]]), (is_chain, [None])):
                for one, other in ((wrong, right), (right, wrong), (wrong, None), (wrong, [0] * 14)):
                    with self.assertRaises(InvalidRow) as caught:
                        function(kind, one, other, *more)
                    self.assertIs(caught.exception.value, wrong)

    def test_wrong_arguments(self):
        for kind in KINDS:
            wrong = wrong_rows(kind) + [[0] * 13, [0] * 100]
            further = [(name, row) for name in ("one", "other") for row in wrong]
            told = [("kind", kind, *KIND), ("one", [0, 1], InvalidRow, judge_short),
                    ("other", [0, 1, 1, 1], InvalidRow, judge_short)]
            self.assert_refusals(chain, kind, told, further)
            self.assert_refusals(is_chain, kind, told + [("value", [[0, 1]], None, None)], further)


class IsChain(unittest.TestCase):
    def test_one_change_and_none(self):
        for kind in reference.small_kinds():
            told = reference.rows_up_to(kind, 4)[:60]
            for one in told:
                right = greedy_changes(kind, one)
                for other in told:
                    self.assertIs(is_chain(kind, one, other, [one, other]), other in right)

    def test_rows_of_unlike_lengths_and_turns_at_the_end(self):
        kind = Kind("mirror", 3)
        one = [2, 0, 1, 0, 1]
        for other in greedy_changes(kind, one):
            self.assertIs(is_chain(kind, one, other, [one, other]), True)
            self.assertIs(is_chain(kind, one, other + [0], [one, other + [0]]), False)
        self.assertIs(is_chain(kind, [0, 0, 0], [0], [[0, 0, 0], [0]]), False)
        self.assertIs(is_chain(kind, [0, 0, 0], [0], [[0, 0, 0], [0, 0], [0]]), True)
        self.assertIs(is_chain(kind, [0, 2, 0, 2], [2, 0, 2, 0], [[0, 2, 0, 2], [2, 0, 2, 0]]), False)

    def test_its_ends(self):
        kind = Kind("plain", 3)
        rows = [[0, 0, 1], [0, 1], [0, 1, 1]]
        self.assertIs(is_chain(kind, rows[0], rows[2], rows), True)
        self.assertIs(is_chain(kind, rows[0], rows[2], rows[1:]), False)
        self.assertIs(is_chain(kind, rows[0], rows[2], rows[:2]), False)
        self.assertIs(is_chain(kind, rows[1], rows[1], [rows[1]]), True)
        self.assertIs(is_chain(kind, rows[1], rows[1], [rows[1], rows[1]]), False)
        self.assertIs(is_chain(kind, rows[1], rows[1], []), False)
        self.assertIs(is_chain(kind, [], [], [[]]), True)
        self.assertIs(is_chain(kind, [], [], []), False)
        self.assertIs(is_chain(kind, [0], [1], [[0], [1]]), False)

    def test_any_value(self):
        for kind in reference.all_kinds():
            row = [0] if kind.steps() else []
            for value in any_values():
                self.assertIs(is_chain(kind, row, row, value), repr(value) == repr([row]))
                right = repr(value) in [repr(further) for further in greedy_changes(kind, row)]
                self.assertIs(is_chain(kind, row, row, [row, value, row]), right)

    def test_wrong_rows_within(self):
        for kind in KINDS:
            for wrong in wrong_rows(kind) + [(0,), [False], [0, False], None]:
                self.assertIs(is_chain(kind, [0], [0], [[0], wrong, [0]]), False)
            self.assertIs(is_chain(kind, [0], [0], ([0],)), False)
            self.assertIs(is_chain(kind, [0], [0], [(0,)]), False)
            self.assertIs(is_chain(kind, [0], [0], [[False]]), False)

    def test_rows_of_a_hundred_steps_within_and_no_longer_ones(self):
        for kind in KINDS:
            for most, right in ((100, True), (101, False)):
                up = [[0] * length for length in range(1, most + 1)]
                self.assertIs(is_chain(kind, [0], [0], up + up[:-1][::-1]), right)


if __name__ == "__main__":
    unittest.main()
