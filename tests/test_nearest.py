"""Points 27 to 29: distances of standings."""

import unittest

from seamlayers.errors import InvalidKind, InvalidNumber, InvalidStanding, TooMany, Unlike
from seamlayers.joining import lowermost, uppermost, way
from seamlayers.kinds import Kind
from seamlayers.nearest import bounds, far_above, far_below, fewest, how_many_up, nearer, odd, partner, seam_needs
from seamlayers.nearest import up_numbered, way_up

from tests import reference, standreference
from tests.support import Refusals, any_values, judge_kind, judge_standing
from tests.test_joining import great_standings, small_standings
from tests.test_orders import GOOD, ring_with
from tests.test_standings import standings_tried, wrong_standings

KIND = InvalidKind, judge_kind
STANDING = InvalidStanding, judge_standing

PAIR, PLAIN, MIRROR = Kind("ring", 2), Kind("plain", 3), Kind("mirror", 2)

# Standings on the shortest ways up of which just 500, and just 501, standings stand.
JUST_500 = PAIR, [[3, -2], [-3, 4], [3, -2], [2, -1]]
JUST_501 = MIRROR, [[1, -2], [2, 1], [-2, -1], [-2, 1], [1, 2], [1, -2], [1, 2]]


def ends(kind, layers):
    """The uppermost and the lowermost standing, by the words of point 25."""
    whole, more = standreference.whole(kind, layers), [kind.start()] * (len(layers) - 1)
    return [whole] + more, more + [whole]


def walked():
    """For small standings: the kind, the standings, and how far those joined are from both ends."""
    for kind, told in small_standings():
        for one in told[::4]:
            upper, lower = ends(kind, one)
            yield kind, one, standreference.walk(kind, upper), standreference.walk(kind, lower)


def ways_from(kind, layers, far):
    """All shortest ways up, in order, off a walk from the uppermost standing."""
    here = far[standreference.told(layers)]
    if here == 0:
        return [[]]
    found = []
    for deed, behind in sorted(standreference.deeds(kind, layers).items()):
        if far[standreference.told(behind)] < here:
            found += [[deed] + further for further in ways_from(kind, behind, far)]
    return found


class FarFromTheEnds(unittest.TestCase, Refusals):
    def test_walks_over_small_standings(self):
        for kind, one, above, below in walked():
            self.assertEqual(far_above(kind, one), above[standreference.told(one)])
            self.assertEqual(far_below(kind, one), below[standreference.told(one)])
            told = [deed for deed, behind in sorted(standreference.deeds(kind, one).items())
                    if above[standreference.told(behind)] < above[standreference.told(one)]]
            self.assertEqual(nearer(kind, one), told)

    def test_the_sum_of_crossings(self):
        for kind in reference.all_kinds():
            for layers in standings_tried(kind) + great_standings(kind)[:4]:
                self.assertEqual(far_above(kind, layers), standreference.far_above(kind, layers))
                self.assertEqual(far_below(kind, layers), standreference.far_below(kind, layers))

    def test_each_deed_changes_both_by_one(self):
        for kind in reference.all_kinds():
            for layers in standings_tried(kind) + great_standings(kind)[2:5]:
                above, below, told = far_above(kind, layers), far_below(kind, layers), []
                for deed, behind in sorted(standreference.deeds(kind, layers).items()):
                    self.assertIn(far_above(kind, behind) - above, (1, -1))
                    self.assertIn(far_below(kind, behind) - below, (1, -1))
                    told += [deed] if far_above(kind, behind) < above else []
                self.assertEqual(nearer(kind, layers), told)

    def test_the_ends(self):
        for kind in reference.all_kinds():
            for layers in standings_tried(kind) + great_standings(kind)[:2]:
                upper, lower = ends(kind, layers)
                far = 2 * (len(layers) - 1) * standreference.many(kind, standreference.whole(kind, layers))
                self.assertEqual([far_above(kind, upper), far_below(kind, upper)], [0, far])
                self.assertEqual([far_above(kind, lower), far_below(kind, lower)], [far, 0])
                self.assertEqual([nearer(kind, upper), partner(kind, upper), way_up(kind, upper)], [[], None, []])
                self.assertEqual([how_many_up(kind, upper), up_numbered(kind, upper, 0)], [1, []])

    def test_one_layer(self):
        for kind, one, _ in GOOD:
            self.assertEqual([far_above(kind, [one]), far_below(kind, [one]), nearer(kind, [one])], [0, 0, []])
            self.assertIsNone(partner(kind, [one]))
            self.assertEqual([odd(kind, [one], [one]), bounds(kind, [one], [one])], [False, (0, 0)])
            self.assertEqual([seam_needs(kind, [one], [one]), fewest(kind, [one], [one])], [[], 0])
            self.assertEqual([way_up(kind, [one]), how_many_up(kind, [one])], [[], 1])

    def test_from_the_uppermost_to_the_lowermost(self):
        for kind in reference.all_kinds():
            for layers in standings_tried(kind) + great_standings(kind)[:1]:
                upper, lower = uppermost(kind, layers), lowermost(kind, layers)
                self.check_each_seam(kind, layers, way(kind, upper, lower))
                self.check_each_seam(kind, layers, way_up(kind, lower)[::-1])

    def check_each_seam(self, kind, layers, deeds):
        whole = standreference.whole(kind, layers)
        for seam in range(len(layers) - 1):
            for side in ("upper", "lower"):
                row = [step for at, which, step in deeds if (at, which) == (seam, side)][::-1]
                self.assertEqual(reference.row_done(kind, kind.start(), row), whole)
                self.assertEqual(len(row), standreference.many(kind, whole))

    def test_partner(self):
        for kind in reference.all_kinds():
            for layers in standings_tried(kind) + great_standings(kind):
                last = max(at for at in range(len(layers)) if at == 0 or layers[at] != kind.start())
                if last == 0:
                    self.assertIsNone(partner(kind, layers))
                    continue
                deed = (last - 1, "upper", standreference.heads(kind, layers[last])[0])
                self.assertEqual(partner(kind, layers), standreference.behind(kind, layers, deed))
                self.assertEqual(partner(kind, partner(kind, layers)), layers)

    def test_wrong_arguments(self):
        for kind, one, other in GOOD:
            further = [("standing", wrong) for wrong in wrong_standings(kind)]
            told = [("kind", kind, *KIND), ("standing", [one, other], *STANDING)]
            for function in (far_above, far_below, nearer, partner, way_up, how_many_up):
                self.assert_refusals(function, kind, told, further)
            number = ("number", 0, InvalidNumber, lambda _, value: type(value) is int and value >= 0)
            self.assert_refusals(up_numbered, kind, told + [number], further)


class WaysUp(unittest.TestCase):
    def test_small_standings(self):
        for kind, one, above, _ in walked():
            if above[standreference.told(one)] > 6:
                continue
            told = ways_from(kind, one, above)
            self.assertEqual(told, sorted(told))
            self.assertEqual(way_up(kind, one), told[0])
            self.assertEqual(how_many_up(kind, one), len(told))
            self.assertEqual([up_numbered(kind, one, number) for number in range(len(told))], told)
            for number in (len(told), len(told) + 1, 10 ** 29):
                with self.assertRaises(InvalidNumber) as caught:
                    up_numbered(kind, one, number)
                self.assertEqual(caught.exception.value, number)

    def test_the_first_of_long_ways(self):
        for kind in reference.all_kinds():
            for layers in standings_tried(kind)[3::3] + great_standings(kind)[1:3]:
                found = way_up(kind, layers)
                self.assertEqual(len(found), far_above(kind, layers))
                for deed in found[:5]:
                    # The first way takes the first deed that leads nearer, each time.
                    told = sorted(one for one, behind in standreference.deeds(kind, layers).items()
                                  if far_above(kind, behind) < far_above(kind, layers))
                    self.assertEqual(deed, told[0])
                    layers = standreference.behind(kind, layers, deed)
                layers = standreference.led(kind, layers, found[5:])
                self.assertEqual(layers, ends(kind, layers)[0])

    def standings_on_ways(self, kind, layers):
        """How many standings stand on the shortest ways up, and how many ways there are."""
        levels = [{standreference.told(layers): 1}]
        while levels[-1]:
            further = {}
            for here, ways in levels[-1].items():
                here = [list(layer) for layer in here]
                for behind in standreference.deeds(kind, here).values():
                    if far_above(kind, behind) < far_above(kind, here):
                        key = standreference.told(behind)
                        further[key] = further.get(key, 0) + ways
            levels.append(further)
        return sum(len(level) for level in levels), sum(levels[-2].values())

    def test_just_500_and_501_standings(self):
        kind, layers = JUST_500
        standings, many = self.standings_on_ways(kind, layers)
        self.assertEqual([standings, how_many_up(kind, layers)], [500, many])
        first, last = up_numbered(kind, layers, 0), up_numbered(kind, layers, many - 1)
        self.assertEqual([first, len(last)], [way_up(kind, layers), len(first)])
        self.assertLess(first, up_numbered(kind, layers, 1))
        self.assertLess(up_numbered(kind, layers, many - 2), last)
        self.assertEqual(standreference.led(kind, layers, last), ends(kind, layers)[0])
        with self.assertRaises(InvalidNumber):
            up_numbered(kind, layers, many)
        kind, layers = JUST_501
        self.assertEqual(self.standings_on_ways(kind, layers)[0], 501)
        for function, more in ((how_many_up, []), (up_numbered, [0]), (up_numbered, [10 ** 29])):
            with self.assertRaises(TooMany) as caught:
                function(kind, layers, *more)
            self.assertEqual(caught.exception.value, 501)

    def test_too_many(self):
        for size in (2, 3, 4, 5):
            kind = Kind("ring", size)
            layers = [kind.start()] * 7 + [ring_with(size, 60)]
            self.assertEqual(len(way_up(kind, layers)), 840)
            for function, more in ((how_many_up, []), (up_numbered, [0]), (up_numbered, [10 ** 29])):
                with self.assertRaises(TooMany) as caught:
                    function(kind, layers, *more)
                self.assertEqual(caught.exception.value, 501)
            for wrong in (-1, True, None, "0", [0]):
                with self.assertRaises(InvalidNumber) as caught:
                    up_numbered(kind, layers, wrong)
                self.assertIs(caught.exception.value, wrong)


class TwoStandings(unittest.TestCase, Refusals):
    def test_walks_over_small_standings(self):
        for kind, told in small_standings():
            for one in told[::17]:
                far = standreference.walk(kind, one)
                for other in told[::3]:
                    many = far.get(standreference.told(other))
                    if many is None:
                        self.assertEqual([odd(kind, one, other), seam_needs(kind, one, other)], [None, None])
                        self.assertEqual([bounds(kind, one, other), fewest(kind, one, other)], [None, None])
                        continue
                    self.assertIs(odd(kind, one, other), many % 2 == 1)
                    self.check_bounds(kind, one, other)
                    self.assertTrue(bounds(kind, one, other)[0] <= many <= bounds(kind, one, other)[1])
                    if len([key for key in far if far[key] < many]) <= 500:
                        self.assertEqual(fewest(kind, one, other), many)

    def check_bounds(self, kind, one, other):
        needs = []
        for at in range(1, len(one)):
            above, below = ([standreference.whole(kind, layers) for layers in both]
                            for both in ((one[:at], other[:at]), (one[at:], other[at:])))
            rows = [reference.down(kind, order) for order in above + below]
            needs.append((standreference.many(kind, reference.row_done(kind, kind.start(), rows[0][::-1] + rows[1])),
                          standreference.many(kind, reference.row_done(kind, kind.start(), rows[3] + rows[2][::-1]))))
        self.assertEqual(seam_needs(kind, one, other), needs)
        far = [[standreference.far_above(kind, layers), standreference.far_below(kind, layers)]
               for layers in (one, other)]
        least = max(abs(far[0][0] - far[1][0]), abs(far[0][1] - far[1][1]), sum(map(sum, needs)))
        self.assertEqual(bounds(kind, one, other), (least, standreference.most_deeds(kind, one, other)))

    def test_standings_shaken(self):
        for kind in reference.all_kinds():
            chance = reference.Chance(29 * kind.size())
            for layers in standings_tried(kind)[::2] + great_standings(kind)[2:3]:
                for times in (1, 2, 9):
                    other = standreference.shaken(kind, chance, layers, times)
                    self.check_bounds(kind, layers, other)
                    far = standreference.far_above(kind, layers) - standreference.far_above(kind, other)
                    self.assertIs(odd(kind, layers, other), far % 2 == 1)
                    if times == 1:
                        self.assertEqual(fewest(kind, layers, other), 0 if layers == other else 1)

    def test_bounds_of_the_ends(self):
        for kind in reference.all_kinds():
            upper, lower = great_standings(kind)[:2]
            far = 14 * standreference.many(kind, upper[0])
            self.assertEqual(bounds(kind, upper, lower), (far, far))
            self.assertEqual(bounds(kind, lower, lower), (0, 0))
            self.assertEqual(seam_needs(kind, upper, lower), [(far // 14, far // 14)] * 7)

    def test_each_part_of_the_bounds(self):
        kind = Kind("plain", 2)
        down, up = [0, 1], [1, 0]
        told = [([down, up, up], [up, down, down]), ([up, up, down], [down, down, up]), ([down, up, down], [up, up, up]),
                ([up, down, up], [down, up, down]), ([up, up, up], [up, down, up])]
        for one, other in told:
            self.check_bounds(kind, one, other)
            self.check_bounds(kind, other, one)

    def test_fewest_of_just_500_standings_and_more(self):
        kind, one = PLAIN, [[0, 1, 2], [1, 0, 2], [2, 1, 0], [2, 1, 0], [0, 1, 2], [0, 1, 2]]
        self.check_fewest(kind, one, {4: 500})
        kind, one = MIRROR, [[1, 2], [-2, -1], [2, 1], [-2, -1]]
        self.check_fewest(kind, one, {6: 501})
        kind, one = PAIR, [[-1, 2], [1, 0], [3, -2], [3, -2]]
        self.check_fewest(kind, one, {16: 501})

    def check_fewest(self, kind, one, known):
        far = standreference.walk(kind, one, 1500)
        within = {many: len([key for key in far if far[key] <= many]) for many in sorted(set(far.values()))}
        for many, standings in known.items():
            self.assertEqual(within[many], standings)
        for many in sorted(within)[:-1]:
            other = [list(layer) for layer in [key for key in far if far[key] == many][-1]]
            if many == 0 or within[many - 1] <= 500:
                self.assertEqual(fewest(kind, one, other), many)
                continue
            with self.assertRaises(TooMany) as caught:
                fewest(kind, one, other)
            self.assertEqual(caught.exception.value, 501)

    def test_too_many_where_bounds_tell_the_number(self):
        for kind in reference.all_kinds():
            upper, lower = great_standings(kind)[:2]
            for one, other in ((upper, lower), (lower, upper)):
                least, most = bounds(kind, one, other)
                self.assertEqual(least, most)
                if most > 60:
                    with self.assertRaises(TooMany) as caught:
                        fewest(kind, one, other)
                    self.assertEqual(caught.exception.value, 501)
                self.assertEqual(fewest(kind, one, one), 0)

    def test_not_always_the_least_bound(self):
        unlike = 0
        for kind, told in small_standings():
            for one in told[::17]:
                far = standreference.walk(kind, one)
                for other in told[::3]:
                    many = far.get(standreference.told(other), 0)
                    unlike += many > 0 and many > bounds(kind, one, other)[0]
        self.assertGreater(unlike, 0)

    def test_wrong_arguments(self):
        for kind, one, other in GOOD:
            further = [(name, wrong) for wrong in wrong_standings(kind) for name in ("one", "other")]
            told = [("kind", kind, *KIND), ("one", [one, other], *STANDING), ("other", [other, one], *STANDING)]
            for function in (odd, seam_needs, bounds, fewest):
                self.assert_refusals(function, kind, told, further)
                for first, second in (([one], [one, other]), ([one] * 8, [one]), ([one, one], [one] * 3)):
                    with self.assertRaises(Unlike) as caught:
                        function(kind, first, second)
                    self.assertIs(caught.exception.value, second)

    def test_any_value_as_a_number(self):
        kind, layers = PLAIN, [[1, 0, 2], [0, 2, 1]]
        for value in any_values():
            if not (type(value) is int and value == 0):
                with self.assertRaises(InvalidNumber) as caught:
                    up_numbered(kind, layers, value)
                self.assertIs(caught.exception.value, value)


if __name__ == "__main__":
    unittest.main()
