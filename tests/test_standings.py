"""Points 23 and 24: standings and deeds."""

import unittest

from seamlayers.errors import InvalidDeed, InvalidKind, InvalidList, InvalidStanding
from seamlayers.kinds import Kind
from seamlayers.standings import deeds, done, is_standing, led, turned, whole, wholes

from tests import reference, standreference
from tests.support import Refusals, any_values, judge_kind, judge_standing
from tests.test_orders import GOOD, ring_with, wrong_orders

KIND = InvalidKind, judge_kind
STANDING = InvalidStanding, judge_standing


def same(one, other):
    """Whether two values are equal and of the same kinds, also within."""
    return repr(one) == repr(other)


def standings_tried(kind):
    """Standings of one to eight layers, starts and great orders among them."""
    chance = reference.Chance(23 * kind.size() + len(kind.name()))
    found = [[kind.start()], [kind.start()] * 2, [kind.start()] * 8]
    for layers in (1, 2, 2, 2, 3, 3, 5, 8):
        found.append(standreference.thrown(kind, chance, layers, 6))
        found.append(standreference.thrown(kind, chance, layers, 2))
    return found


def wrong_standings(kind):
    """Near misses of standings."""
    start = kind.start()
    wrong = [[], [start] * 9, (start,), (start, start), start, [[start]], [start, None], [start, tuple(start)]]
    wrong += [[start, start, start + start], [None, start], {0: start}, [start] * 7 + [start[:-1]]]
    wrong += [[wrong_order] for wrong_order in wrong_orders(kind)]
    if kind.name() == "ring":
        size = kind.size()
        wrong += [[ring_with(size, 61)], [start, ring_with(size, 61)], far_whole(size)]
    return wrong


def far_whole(size):
    """A standing form of layers with few crossings, the whole of which has 61."""
    kind = Kind("ring", size)
    row = [at % size for at in range(61)]
    return [reference.row_done(kind, kind.start(), row[at:at + 10]) for at in range(0, 61, 10)]


def wrong_deeds(kind, layers):
    """Near misses of deeds of a standing."""
    many, steps = len(layers), kind.steps()
    wrong = [(many - 1, side, step) for side in ("upper", "lower") for step in range(steps)]
    wrong += [(-1, side, step) for side in ("upper", "lower") for step in range(steps)]
    wrong += [(0, side, step) for side in ("upper", "lower", "Upper", "", None, 0) for step in (-1, steps, None, "0")]
    wrong += [(0, side, step) for side in ("up", "middle", 0, None, ["upper"]) for step in range(steps)]
    for seam in range(many - 1):
        for side in ("upper", "lower"):
            for step in range(steps):
                wrong += [(seam, side, step), [seam, side, step], (seam, side), (seam, side, step, 0)]
                wrong += [(side, seam, step), (seam, step, side), (bool(seam), side, step), (seam, side, bool(step))]
                wrong += [(str(seam), side, step), ((seam,), side, step), (seam, side, [step])]
    right = standreference.deeds(kind, layers)
    return [value for value in wrong if not any(same(value, deed) for deed in right)]


class Standings(unittest.TestCase, Refusals):
    def test_is_standing(self):
        for kind in reference.all_kinds():
            for layers in standings_tried(kind):
                self.assertIs(is_standing(kind, layers), True)
            for value in wrong_standings(kind):
                self.assertIs(is_standing(kind, value), False, (kind.name(), kind.size(), value))
            for value in any_values():
                self.assertIs(is_standing(kind, value), judge_standing(kind, value), value)

    def test_wholes_of_just_60_and_61_crossings(self):
        for size in range(2, 6):
            kind, row = Kind("ring", size), [at % size for at in range(61)]
            parts = [reference.row_done(kind, kind.start(), row[at:at + 10]) for at in range(0, 60, 10)]
            self.assertIs(is_standing(kind, parts), True)
            self.assertEqual(whole(kind, parts), ring_with(size, 60))
            self.assertIs(is_standing(kind, far_whole(size)), False)
            self.assertIs(is_standing(kind, [ring_with(size, 60)] * 2), False)
            self.assertIs(is_standing(kind, [ring_with(size, 60)] * 8), False)
            self.assertIs(is_standing(kind, [ring_with(size, 60)] + [kind.start()] * 7), True)

    def test_is_standing_of_no_kind(self):
        for wrong in any_values():
            if not isinstance(wrong, Kind):
                for value in ([[0, 1, 2]], None, []):
                    with self.assertRaises(InvalidKind) as caught:
                        is_standing(wrong, value)
                    self.assertIs(caught.exception.value, wrong)

    def test_whole_and_wholes(self):
        for kind in reference.all_kinds():
            for layers in standings_tried(kind):
                self.assertEqual(whole(kind, layers), standreference.whole(kind, layers))
                told = [standreference.whole(kind, layers[at:]) for at in range(len(layers))]
                self.assertEqual(wholes(kind, layers), told)

    def test_turned(self):
        for kind in reference.all_kinds():
            for layers in standings_tried(kind):
                told = [standreference.turned(kind, layer) for layer in layers[::-1]]
                self.assertEqual(turned(kind, layers), told)
                self.assertEqual(turned(kind, told), layers)
                self.assertEqual(whole(kind, told), standreference.turned(kind, whole(kind, layers)))

    def test_wrong_arguments(self):
        for kind, one, other in GOOD:
            further = [("standing", wrong) for wrong in wrong_standings(kind)]
            told = [("kind", kind, *KIND), ("standing", [one, other, one], *STANDING)]
            for function in (whole, wholes, turned, deeds):
                self.assert_refusals(function, kind, told, further)


class Deeds(unittest.TestCase, Refusals):
    def test_deeds_and_done(self):
        for kind in reference.all_kinds():
            for layers in standings_tried(kind):
                told = standreference.deeds(kind, layers)
                self.assertEqual(deeds(kind, layers), sorted(told))
                for deed, behind in told.items():
                    self.assertEqual(done(kind, layers, deed), behind)

    def test_each_deed_is_undone_by_itself_and_the_whole_stays(self):
        for kind in reference.all_kinds():
            for layers in standings_tried(kind)[:9]:
                for deed in deeds(kind, layers):
                    behind = done(kind, layers, deed)
                    self.assertEqual(done(kind, behind, deed), layers)
                    self.assertEqual(whole(kind, behind), whole(kind, layers))

    def test_no_deeds(self):
        for kind in reference.all_kinds():
            self.assertEqual(deeds(kind, [kind.start()] * 8), [])
            self.assertEqual(deeds(kind, [reference.Chance(3).order(kind, 5)]), [])

    def test_first_and_last_seam(self):
        kind = Kind("mirror", 2)
        layers = [[-1, 2]] + [[1, 2]] * 6 + [[-1, 2]]
        self.assertEqual(deeds(kind, layers), [(0, "lower", 0), (6, "upper", 0)])
        self.assertEqual(done(kind, layers, (0, "lower", 0))[:2], [[-1, 2], [-1, 2]])
        self.assertEqual(done(kind, layers, (6, "upper", 0))[6:], [[-1, 2], [-1, 2]])

    def test_wrong_deeds(self):
        for kind in (Kind("plain", 1), Kind("plain", 3), Kind("plain", 4), Kind("mirror", 2), Kind("ring", 2),
                     Kind("ring", 3)):
            for layers in standings_tried(kind)[:13:2]:
                right = standreference.deeds(kind, layers)
                for value in wrong_deeds(kind, layers) + any_values():
                    if not any(same(value, deed) for deed in right):
                        with self.assertRaises(InvalidDeed) as caught:
                            done(kind, layers, value)
                        self.assertIs(caught.exception.value, value)
                        with self.assertRaises(InvalidDeed) as caught:
                            led(kind, layers, [value, None])
                        self.assertIs(caught.exception.value, value)

    def test_deeds_that_are_let_but_for_one_item(self):
        kind, layers = Kind("plain", 3), [[1, 0, 2], [0, 2, 1]]
        for wrong in ((0, "lower", 1), (0, "upper", 0), (1, "lower", 0), (0, "Lower", 0), (False, "lower", 0),
                      (0, "lower", False), (0, "lower", -2), (-1, "lower", 0), [0, "lower", 0]):
            with self.assertRaises(InvalidDeed) as caught:
                done(kind, layers, wrong)
            self.assertIs(caught.exception.value, wrong)

    def test_wrong_arguments(self):
        for kind, one, other in GOOD:
            layers = [other, one, one]
            further = [("standing", wrong) for wrong in wrong_standings(kind)]
            told = [("kind", kind, *KIND), ("standing", layers, *STANDING)]
            right = [deed for deed in standreference.deeds(kind, layers)]
            deed = ("deed", right[0], InvalidDeed, lambda _, value: any(same(value, deed) for deed in right))
            self.assert_refusals(done, kind, told + [deed], further)


class Led(unittest.TestCase, Refusals):
    def test_many_deeds(self):
        for kind in reference.all_kinds():
            chance = reference.Chance(240 + kind.size())
            for layers in standings_tried(kind):
                here, row = layers, []
                for _ in range(10):
                    found = standreference.deeds(kind, here)
                    if found:
                        row.append(sorted(found)[chance.below(len(found))])
                        here = found[row[-1]]
                self.assertEqual(led(kind, layers, row), here)
                self.assertEqual(led(kind, layers, row + row[::-1]), layers)
                self.assertEqual(led(kind, layers, []), layers)

    def test_the_first_item_that_is_no_deed(self):
        kind, layers = Kind("plain", 3), [[1, 0, 2], [0, 2, 1]]
        right = [(0, "upper", 1), (0, "lower", 1)]
        for at in range(3):
            for wrong in (None, (0, "upper", 5), (0, "lower", 3), [0, "upper", 1], (0, "upper", 0), 7):
                row = right[:at] + [wrong] + right[at:] + [None]
                with self.assertRaises(InvalidDeed) as caught:
                    led(kind, layers, row)
                self.assertIs(caught.exception.value, wrong)
        again = (0, "upper", 1)
        with self.assertRaises(InvalidDeed) as caught:
            led(kind, layers, right + [again])
        self.assertIs(caught.exception.value, again)

    def test_a_deed_of_the_first_standing_that_is_none_later(self):
        kind, layers = Kind("mirror", 2), [[-1, 2], [-1, 2]]
        self.assertEqual(led(kind, layers, [(0, "lower", 0)]), [[-1, 2], [1, 2]])
        with self.assertRaises(InvalidDeed):
            led(kind, layers, [(0, "lower", 0), (0, "upper", 0)])
        self.assertEqual(led(kind, layers, [(0, "upper", 0), (0, "upper", 0), (0, "lower", 0)]), [[-1, 2], [1, 2]])

    def test_wrong_arguments(self):
        for kind, one, other in GOOD:
            further = [("standing", wrong) for wrong in wrong_standings(kind)]
            told = [("kind", kind, *KIND), ("standing", [one, other], *STANDING)]
            self.assert_refusals(done, kind, told + [("deed", (0, "lower", 0), None, None)], further)
            row = ("deeds", [], InvalidList, lambda _, value: isinstance(value, list))
            self.assert_refusals(led, kind, told + [row], further)


if __name__ == "__main__":
    unittest.main()
