"""Point 6: kinds, and `wait`."""

import itertools
import unittest

from seamlayers.errors import InvalidKind, InvalidNumber
from seamlayers.kinds import Kind, wait

from tests import reference
from tests.support import Refusals, any_values, judge_kind, judge_step

STEPS = {"plain": lambda size: size - 1, "mirror": lambda size: size, "ring": lambda size: size}
BOUNDS = {"plain": (1, 7), "mirror": (1, 5), "ring": (2, 5)}


def waited(kind, one, other):
    """After how many exchanges by turns both beginnings come together, None if not within 30."""
    left = right = reference.start(kind)
    for many in range(1, 31):
        left = reference.step_done(kind, left, (one, other)[(many + 1) % 2])
        right = reference.step_done(kind, right, (one, other)[many % 2])
        if left == right:
            return many
    return None


class Kinds(unittest.TestCase, Refusals):
    def test_all_sizes(self):
        for name, (least, most) in BOUNDS.items():
            for size in range(least, most + 1):
                kind = Kind(name, size)
                self.assertEqual((kind.name(), kind.size(), kind.steps()), (name, size, STEPS[name](size)))

    def test_named_arguments(self):
        self.assertEqual(Kind(size=2, name="mirror"), Kind("mirror", 2))

    def test_sizes_beyond(self):
        for name, (least, most) in BOUNDS.items():
            for size in (least - 1, most + 1, 0, -1, 10 ** 29):
                with self.assertRaises(InvalidNumber) as caught:
                    Kind(name, size)
                self.assertIs(caught.exception.value, size)

    def test_wrong_names_come_first(self):
        for wrong in any_values() + ["Plain", "plain ", "rings", ["plain"], ("ring",), {"ring": 3}]:
            if isinstance(wrong, str) and wrong in BOUNDS:
                continue
            for size in (3, 99, None, True):
                with self.assertRaises(InvalidKind) as caught:
                    Kind(wrong, size)
                self.assertIs(caught.exception.value, wrong)

    def test_wrong_sizes(self):
        for name, (least, most) in BOUNDS.items():
            for wrong in any_values():
                if reference.is_whole(wrong) and least <= wrong <= most:
                    continue
                with self.assertRaises(InvalidNumber) as caught:
                    Kind(name, wrong)
                self.assertIs(caught.exception.value, wrong)

    def test_start(self):
        self.assertEqual(Kind("plain", 1).start(), [0])
        self.assertEqual(Kind("plain", 7).start(), [0, 1, 2, 3, 4, 5, 6])
        self.assertEqual(Kind("mirror", 1).start(), [1])
        self.assertEqual(Kind("mirror", 5).start(), [1, 2, 3, 4, 5])
        self.assertEqual(Kind("ring", 2).start(), [0, 1])
        self.assertEqual(Kind("ring", 5).start(), [0, 1, 2, 3, 4])

    def test_start_is_a_new_list(self):
        for kind in reference.all_kinds():
            kind.start().clear()
            self.assertEqual(kind.start(), reference.start(kind))

    def test_equal_exactly_if_both_are(self):
        kinds = reference.all_kinds()
        for one, other in itertools.product(range(len(kinds)), repeat=2):
            self.assertIs(kinds[one] == Kind(kinds[other].name(), kinds[other].size()), one == other)
            self.assertIs(kinds[one] != kinds[other], one != other)

    def test_equal_to_nothing_else(self):
        for kind in reference.all_kinds():
            for value in any_values() + [("plain", 3), ["ring", 2]]:
                if not isinstance(value, Kind):
                    self.assertFalse(kind == value)
                    self.assertFalse(value == kind)

    def test_methods_stand_in_the_class(self):
        for name in ("name", "size", "steps", "start"):
            self.assertIn(name, vars(Kind))


class Wait(unittest.TestCase, Refusals):
    def test_all_pairs(self):
        for kind in reference.all_kinds():
            for one, other in itertools.permutations(range(kind.steps()), 2):
                self.assertEqual(wait(kind, one, other), waited(kind, one, other), (kind.name(), one, other))

    def test_told_pairs(self):
        self.assertEqual([wait(Kind("mirror", 5), 0, 1), wait(Kind("mirror", 5), 1, 0)], [4, 4])
        self.assertEqual([wait(Kind("mirror", 5), 1, 2), wait(Kind("mirror", 5), 0, 2)], [3, 2])
        self.assertEqual([wait(Kind("ring", 2), 0, 1), wait(Kind("ring", 2), 1, 0)], [None, None])
        self.assertEqual([wait(Kind("ring", 3), 0, 2), wait(Kind("ring", 5), 4, 0)], [3, 3])
        self.assertEqual([wait(Kind("ring", 4), 3, 1), wait(Kind("plain", 7), 0, 5)], [2, 2])

    def test_wrong_arguments(self):
        for kind in (Kind("plain", 3), Kind("mirror", 2), Kind("ring", 2), Kind("ring", 4)):
            self.assert_refusals(wait, kind, [
                ("kind", kind, InvalidKind, judge_kind), ("one", 1, InvalidNumber, judge_step),
                ("other", 0, InvalidNumber, judge_step)])

    def test_kinds_with_no_step_or_one(self):
        self.assert_refusals(wait, Kind("plain", 1), [
            ("kind", Kind("plain", 1), InvalidKind, judge_kind), ("one", 0, InvalidNumber, judge_step),
            ("other", 0, None, None)])
        for kind in (Kind("plain", 2), Kind("mirror", 1)):
            with self.assertRaises(InvalidNumber) as caught:
                wait(kind, 0, 1)
            self.assertEqual(caught.exception.value, 1)

    def test_other_equal_to_one(self):
        for kind in reference.all_kinds():
            for step in range(kind.steps()):
                with self.assertRaises(InvalidNumber) as caught:
                    wait(kind, step, step)
                self.assertEqual(caught.exception.value, step)


if __name__ == "__main__":
    unittest.main()
