"""Points 25 and 26: joined standings, and ways between them."""

import unittest

from seamlayers.errors import InvalidKind, InvalidList, InvalidStanding, Unlike
from seamlayers.joining import is_way, joined, joined_at, lowermost, uppermost, way, way_at
from seamlayers.kinds import Kind
from seamlayers.standings import deeds, led

from tests import reference, standreference
from tests.support import Refusals, any_values, judge_kind, judge_standing
from tests.test_orders import GOOD, ring_with
from tests.test_standings import standings_tried, wrong_standings

KIND = InvalidKind, judge_kind
STANDING = InvalidStanding, judge_standing

# Kinds with orders with at most so many crossings, and numbers of layers, of which all standings are tried.
SMALL = [(Kind("plain", 2), 1, 4), (Kind("plain", 3), 3, 2), (Kind("mirror", 1), 1, 3), (Kind("mirror", 2), 4, 2),
         (Kind("ring", 2), 3, 2), (Kind("ring", 2), 1, 3), (Kind("ring", 3), 2, 2), (Kind("plain", 3), 1, 3)]


def small_standings():
    """Tuples of a kind and all standings of few layers with few crossings."""
    for kind, most, layers in SMALL:
        orders = [order for _, order, _ in reference.orders_up_to(kind, most)]
        yield kind, standreference.standings_of(kind, orders, layers)


def great_standings(kind):
    """Joined standings of eight layers with a great whole."""
    if kind.name() == "ring":
        row = [at % kind.size() for at in range(60)]
    else:
        row = reference.down(kind, reference.Chance(1).order(kind, 90))
    chance = reference.Chance(8)
    whole = reference.row_done(kind, kind.start(), row)
    ends = [[whole] + [kind.start()] * 7, [kind.start()] * 7 + [whole]]
    cuts = [len(row) * at // 8 for at in range(9)]
    parts = [reference.row_done(kind, kind.start(), row[cuts[at]:cuts[at + 1]]) for at in range(8)]
    told = ends + [parts]
    return told + [standreference.shaken(kind, chance, one, 15) for one in told]


class Joined(unittest.TestCase, Refusals):
    def test_joined_is_led_to(self):
        for kind, told in small_standings():
            for one in told[::5]:
                found = standreference.walk(kind, one)
                for other in told:
                    self.assertIs(joined(kind, one, other), standreference.told(other) in found)

    def test_uppermost_and_lowermost(self):
        for kind in reference.all_kinds():
            for layers in standings_tried(kind):
                whole, start = standreference.whole(kind, layers), kind.start()
                more = [start] * (len(layers) - 1)
                self.assertEqual(uppermost(kind, layers), [whole] + more)
                self.assertEqual(lowermost(kind, layers), more + [whole])

    def test_one_layer(self):
        for kind, one, other in GOOD:
            self.assertEqual([joined(kind, [one], [other]), joined(kind, [one], [one])], [one == other, True])
            self.assertEqual([uppermost(kind, [one]), lowermost(kind, [one])], [[one], [one]])
            self.assertEqual([way(kind, [one], [one]), is_way(kind, [one], [one], [])], [[], True])

    def test_unlike_numbers_of_layers(self):
        for kind, one, other in GOOD:
            for function, more in ((joined, []), (way, []), (is_way, [[]]), (joined_at, [None]), (way_at, [None])):
                for first, second in (([one], [one, other]), ([one] * 8, [one]), ([one, one], [one] * 3)):
                    with self.assertRaises(Unlike) as caught:
                        function(kind, first, second, *more)
                    self.assertIs(caught.exception.value, second)
                for second in wrong_standings(kind)[:9]:
                    with self.assertRaises(InvalidStanding) as caught:
                        function(kind, [one], second, *more)
                    self.assertIs(caught.exception.value, second)

    def test_wrong_arguments(self):
        for kind, one, other in GOOD:
            further = [(name, wrong) for wrong in wrong_standings(kind) for name in ("standing", "one", "other")]
            told = [("kind", kind, *KIND), ("one", [one, other], *STANDING), ("other", [other, one], *STANDING)]
            for function in (joined, way):
                self.assert_refusals(function, kind, told, further)
            self.assert_refusals(is_way, kind, told + [("value", [], None, None)], further)
            for function in (uppermost, lowermost):
                self.assert_refusals(function, kind, [told[0], ("standing", [one, other], *STANDING)], further)
            seams = ("seams", [0], InvalidList, lambda _, value: value == [] or repr(value) == "[0]")
            more = [("seams", wrong) for wrong in wrong_seams(2)]
            for function in (joined_at, way_at):
                self.assert_refusals(function, kind, told + [seams], further + more)


class Ways(unittest.TestCase):
    def check(self, kind, one, other):
        found = way(kind, one, other)
        if standreference.whole(kind, one) != standreference.whole(kind, other):
            self.assertIsNone(found)
            return
        self.assertIs(type(found), list)
        self.assertEqual(standreference.led(kind, one, found), other)
        self.assertLessEqual(len(found), standreference.most_deeds(kind, one, other))
        self.assertIs(is_way(kind, one, other, found), True)

    def test_all_small_standings(self):
        for kind, told in small_standings():
            for one in told[::7]:
                for other in told[::2]:
                    self.check(kind, one, other)

    def test_standings_shaken(self):
        for kind in reference.all_kinds():
            chance = reference.Chance(25 * kind.size())
            for layers in standings_tried(kind):
                for times in (1, 4, 20):
                    other = standreference.shaken(kind, chance, layers, times)
                    self.check(kind, layers, other)
                self.check(kind, layers, layers)

    def test_great_standings(self):
        for kind in reference.all_kinds():
            told = great_standings(kind)
            for one in told:
                for other in told:
                    found = way(kind, one, other)
                    self.assertEqual(led(kind, one, found), other)
                    self.assertLessEqual(len(found), 2000)
            for one in told[:3]:
                for other in told[3:]:
                    self.assertLessEqual(len(way(kind, one, other)), standreference.most_deeds(kind, one, other))

    def test_over_the_nearer_end(self):
        kind, one = Kind("ring", 5), ring_with(5, 60)
        start = kind.start()
        low, less = [start] * 7 + [one], [start] * 6 + [reference.step_done(kind, start, 0), one]
        self.assertEqual(way(kind, low, less), [(6, "upper", 0)])
        high, more = [one] + [start] * 7, [one, reference.step_done(kind, start, 4)] + [start] * 6
        self.assertEqual(way(kind, high, more), [(0, "lower", 4)])
        self.assertEqual([way(kind, low, low), way(kind, high, high)], [[], []])


class IsWay(unittest.TestCase):
    def test_single_deeds(self):
        for kind, told in small_standings():
            for one in told[::9]:
                behind = standreference.deeds(kind, one)
                for deed, there in behind.items():
                    for other in told[::11] + [there]:
                        self.assertIs(is_way(kind, one, other, [deed]), other == there)
                        self.assertIs(is_way(kind, one, other, [deed, deed]), other == one)

    def test_any_value(self):
        for kind, one, other in GOOD:
            layers = [one, other]
            for value in any_values():
                right = False
                if isinstance(value, list):
                    try:
                        right = standreference.led(kind, layers, value) == layers
                    except (KeyError, TypeError):
                        right = False
                self.assertIs(is_way(kind, layers, layers, value), right, value)
                self.assertIs(is_way(kind, layers, layers, [value]), False)

    def test_near_misses(self):
        kind, one, other = Kind("plain", 3), [[1, 0, 2], [0, 2, 1]], [[1, 2, 0], [0, 1, 2]]
        right = [(0, "upper", 1), (0, "lower", 1)]
        self.assertIs(is_way(kind, one, other, right), True)
        self.assertIs(is_way(kind, other, one, right[::-1]), True)
        for wrong in (right[::-1], right[:1], [], right + right, tuple(right), [list(deed) for deed in right],
                      right + [None], [None] + right, right[:1] + [None] + right[1:], [(False, "upper", 1), right[1]],
                      [(0, "upper", True), right[1]]):
            self.assertIs(is_way(kind, one, other, wrong), False, wrong)
        self.assertIs(is_way(kind, one, one[::-1], []), False)

    def test_two_thousand_deeds(self):
        for kind in reference.all_kinds():
            layers = great_standings(kind)[2]
            if deeds(kind, layers):
                deed = deeds(kind, layers)[0]
                self.assertIs(is_way(kind, layers, layers, [deed] * 2000), True)
                self.assertIs(is_way(kind, layers, layers, [deed] * 1999), False)


def wrong_seams(layers):
    """Near misses of lists of seams of a standing of so many layers."""
    return [(), (0,), None, 0, [-1], [layers - 1], [0, layers - 1], [-1, 0], [0, 0], [True], [False], [0, True],
            ["0"], [None], [[0]], [(0,)], {0: 0}, [1, 0], [0, 1, 1], [2, 1, 0], [10 ** 29]]


class At(unittest.TestCase):
    def walk_at(self, kind, layers, seams):
        found, level = {standreference.told(layers)}, [layers]
        while level:
            further = []
            for here in level:
                for (seam, _, _), there in standreference.deeds(kind, here).items():
                    if seam in seams and standreference.told(there) not in found:
                        found.add(standreference.told(there))
                        further.append(there)
            level = further
        return found

    def check(self, kind, one, other, seams, right):
        self.assertIs(joined_at(kind, one, other, seams), right)
        found = way_at(kind, one, other, seams)
        if not right:
            self.assertIsNone(found)
            return
        self.assertIs(type(found), list)
        self.assertEqual(standreference.led(kind, one, found), other)
        self.assertTrue(all(deed[0] in seams for deed in found))
        self.assertLessEqual(len(found), 2000)

    def test_small_standings(self):
        for kind, told in small_standings():
            for seams in reference.subsets(list(range(len(told[0]) - 1))):
                for one in told[::23]:
                    found = self.walk_at(kind, one, seams)
                    for other in told[::3]:
                        self.check(kind, one, other, seams, standreference.told(other) in found)

    def test_standings_shaken_at_seams(self):
        for kind in reference.all_kinds():
            chance = reference.Chance(26 * kind.size())
            for layers in standings_tried(kind):
                every = list(range(len(layers) - 1))
                for seams in (every, every[1:], every[:-1], every[::2], []):
                    other = layers
                    for _ in range(8):
                        found = [deed for deed in standreference.deeds_there(kind, other) if deed[0] in seams]
                        if found:
                            other = standreference.behind(kind, other, found[chance.below(len(found))])
                    self.check(kind, layers, other, seams, True)

    def test_all_seams_and_none(self):
        for kind in reference.all_kinds():
            told = great_standings(kind)
            for one, other in zip(told, told[1:]):
                found = way_at(kind, one, other, list(range(7)))
                self.assertEqual(led(kind, one, found), other)
                self.assertLessEqual(len(found), 2000)
                self.assertIs(joined_at(kind, one, other, list(range(7))), True)
                self.assertIs(joined_at(kind, one, other, []), one == other)
                self.assertEqual(way_at(kind, one, one, []), [])

    def test_wrong_seams(self):
        for kind, order, _ in GOOD:
            for layers in (1, 2, 3):
                standing = [kind.start()] * (layers - 1) + [order]
                for wrong in wrong_seams(layers) + any_values():
                    right = reference.is_block(Kind("plain", 7), wrong) and all(seam < layers - 1 for seam in wrong)
                    if not right:
                        for function in (joined_at, way_at):
                            with self.assertRaises(InvalidList) as caught:
                                function(kind, standing, standing, wrong)
                            self.assertIs(caught.exception.value, wrong)


if __name__ == "__main__":
    unittest.main()
