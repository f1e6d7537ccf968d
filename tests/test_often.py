"""Answers that must stay as they are while they come sooner, and the time of many of them."""

import time
import unittest

from seamlayers.errors import InvalidDeed, InvalidKind, InvalidStanding, TooMany, Unlike
from seamlayers.joining import is_way, joined, way
from seamlayers.kinds import Kind
from seamlayers.lower import how_many_beneath, how_many_between
from seamlayers.nearest import bounds, far_above, far_below, fewest, how_many_up, nearer, odd, seam_needs
from seamlayers.nearest import up_numbered, way_up
from seamlayers.standings import done, is_standing, whole, wholes

from tests import beginreference, reference, standreference
from tests.test_standings import wrong_deeds, wrong_standings

SECONDS = 10

GREAT = Kind("plain", 6)
TOP = [[5, 4, 3, 2, 1, 0]] * 8
LOW = [[5, 4, 3, 2, 1, 0]] + [[0, 1, 2, 3, 4, 5]] * 7


class InTime(unittest.TestCase):
    def assert_in_time(self, calls, times):
        begun = time.monotonic()
        for _ in range(times):
            calls()
        self.assertLess(time.monotonic() - begun, SECONDS)


class Between(InTime):
    """Orders between two orders: all pairs of orders of small kinds beside a count."""

    def below(self, kind, orders):
        return {tuple(order): reference.made_by_parts(kind, reference.down(kind, order)) for order in orders}

    def check_pairs(self, kind, ones, others):
        below = self.below(kind, ones + others)
        more = self.below(kind, sorted({order for other in others for order in below[tuple(other)]}))
        for one in ones:
            for other in others:
                there = [beginreference.many(kind, order) for order in below[tuple(other)] if tuple(one) in more[order]]
                told = [there.count(many) for many in range(min(there), max(there) + 1)] if there else []
                self.assertEqual(how_many_between(kind, list(one), list(other)), told)

    def test_all_pairs_of_small_kinds(self):
        for kind, most in ((Kind("plain", 1), 0), (Kind("plain", 2), 1), (Kind("plain", 3), 3), (Kind("plain", 4), 6),
                           (Kind("mirror", 1), 1), (Kind("mirror", 2), 4), (Kind("mirror", 3), 9),
                           (Kind("ring", 2), 7), (Kind("ring", 3), 5), (Kind("ring", 4), 3), (Kind("ring", 5), 2)):
            every = [order for _, order, _ in reference.orders_up_to(kind, most)]
            self.check_pairs(kind, every, every)

    def test_some_pairs_of_great_kinds(self):
        for kind in (Kind("plain", 5), Kind("plain", 6), Kind("mirror", 4), Kind("ring", 3), Kind("ring", 4)):
            chance = reference.Chance(kind.size())
            others = [chance.least_row(kind, length) for length in (4, 7, 9)]
            ones = [[step for step in row if chance.below(3)] for row in others for _ in range(3)]
            self.check_pairs(kind, [reference.row_done(kind, kind.start(), row) for row in ones],
                             [reference.row_done(kind, kind.start(), row) for row in others])

    def test_the_greatest_orders(self):
        for kind, order in ((GREAT, [5, 4, 3, 2, 1, 0]), (Kind("mirror", 4), [-1, -2, -3, -4]),
                            (Kind("plain", 5), [4, 3, 2, 1, 0]), (Kind("plain", 4), [3, 2, 1, 0])):
            found = how_many_between(kind, kind.start(), order)
            self.assertEqual(found, [len(level) for level in reference.levels(kind, 99)])
            self.assertEqual(found, how_many_beneath(kind, order))
            # Seen from the other end as many orders are above an order as are beneath its product with the greatest.
            for _, one, _ in reference.orders_up_to(kind, 2):
                turned = reference.row_done(kind, one, reference.down(kind, order))
                self.assertEqual(how_many_between(kind, one, order), how_many_beneath(kind, turned)[::-1])
            self.assertEqual(how_many_between(kind, order, order), [1])
            self.assertEqual(how_many_between(kind, order, kind.start()), [])

    def test_many_of_them(self):
        def calls():
            for kind, order in ((GREAT, [5, 4, 3, 2, 1, 0]), (Kind("mirror", 4), [-1, -2, -3, -4]),
                                (Kind("plain", 5), [4, 3, 2, 1, 0]), (Kind("plain", 4), [3, 2, 1, 0])):
                how_many_between(kind, kind.start(), order)
        # If each order were asked for itself whether the first one is beneath it, these took twelve seconds.
        self.assert_in_time(calls, 700)


class Standings(InTime):
    """Standings of many layers, their wholes and what hangs on them."""

    def drawn(self):
        """Tuples (kind, standing, a joined one), of all kinds and numbers of layers."""
        for kind in reference.all_kinds():
            chance = reference.Chance(14 * kind.size())
            for layers in range(1, 9):
                for length in (2, 6):
                    one = standreference.thrown(kind, chance, layers, length)
                    yield kind, one, standreference.shaken(kind, chance, one, 3 + chance.below(9))

    def needs(self, kind, one, other):
        """The sums that point 29 tells of each seam."""
        told = []
        for at in range(1, len(one)):
            above = beginreference.rest(kind, standreference.whole(kind, one[:at]),
                                        standreference.whole(kind, other[:at]))
            below = beginreference.rest_ahead(kind, standreference.whole(kind, one[at:]),
                                              standreference.whole(kind, other[at:]))
            told.append((standreference.many(kind, above), standreference.many(kind, below)))
        return told

    def test_drawn_standings(self):
        for kind, one, other in self.drawn():
            self.assertIs(is_standing(kind, one), True)
            self.assertEqual([whole(kind, one), wholes(kind, one)],
                             [standreference.whole(kind, one), standreference.wholes(kind, one)])
            here, there = [(standreference.far_above(kind, told), standreference.far_below(kind, told))
                           for told in (one, other)]
            self.assertEqual((far_above(kind, one), far_below(kind, one)), here)
            self.assertIs(joined(kind, one, other), True)
            self.assertIs(odd(kind, one, other), (here[0] + there[0]) % 2 == 1)
            needs = self.needs(kind, one, other)
            self.assertEqual(seam_needs(kind, one, other), needs)
            least = max(abs(here[0] - there[0]), abs(here[1] - there[1]), sum(map(sum, needs)))
            most = min(here[0] + there[0], here[1] + there[1])
            self.assertEqual(bounds(kind, one, other), (least, most))
            self.assertEqual(nearer(kind, one), sorted(
                deed for deed, behind in standreference.deeds(kind, one).items()
                if standreference.far_above(kind, behind) < here[0]))

    def test_ways_of_drawn_standings(self):
        for kind, one, other in self.drawn():
            for end in (other, one):
                found = way(kind, one, end)
                self.assertEqual(standreference.led(kind, one, found), end)
                self.assertLessEqual(len(found), standreference.most_deeds(kind, one, end))
                self.assertIs(is_way(kind, one, end, found), True)
                self.assertIs(is_way(kind, one, end, found + [None]), False)
            for deed, behind in list(standreference.deeds(kind, one).items())[:9]:
                self.assertEqual(done(kind, one, deed), behind)
                self.assertIs(is_way(kind, one, behind, [deed]), True)

    def test_standings_that_are_not_joined(self):
        for kind, one, _ in self.drawn():
            other = one[::-1]
            there = standreference.whole(kind, one) == standreference.whole(kind, other)
            self.assertIs(joined(kind, one, other), there)
            for function in (odd, seam_needs, bounds, way):
                self.assertIs(function(kind, one, other) is None, not there)

    def test_errors_of_drawn_standings(self):
        for kind, one, other in self.drawn():
            if len(one) > 3:
                continue
            for wrong in wrong_standings(kind)[::3] + [one + [None], [None] + one, one + [[]], [one[0] + [0]] + one[1:]]:
                self.assertIs(is_standing(kind, wrong), False)
                for function, arguments in ((far_above, [wrong]), (far_below, [wrong]), (nearer, [wrong]),
                                            (joined, [one, wrong]), (joined, [wrong, None]), (bounds, [wrong, one]),
                                            (way, [one, wrong]), (is_way, [wrong, one, []]), (done, [wrong, None])):
                    with self.assertRaises(InvalidStanding) as caught:
                        function(kind, *arguments)
                    self.assertIs(caught.exception.value, wrong)
            for function in (joined, odd, seam_needs, bounds, way, fewest):
                longer = other + [kind.start()]
                with self.assertRaises(Unlike) as caught:
                    function(kind, one, longer)
                self.assertIs(caught.exception.value, longer)
            for wrong in wrong_deeds(kind, one)[::5] + [None, [], (0, "upper")]:
                if wrong not in list(standreference.deeds(kind, one)):
                    with self.assertRaises(InvalidDeed) as caught:
                        done(kind, one, wrong)
                    self.assertIs(caught.exception.value, wrong)
                    self.assertIs(is_way(kind, one, one, [wrong]), False)
            for function in (far_above, far_below, is_standing, nearer):
                with self.assertRaises(InvalidKind):
                    function(None, one)

    def test_changed_between_two_calls(self):
        kind = Kind("plain", 4)
        one = [[3, 2, 1, 0], [0, 1, 2, 3]]
        self.assertEqual([far_above(kind, one), is_standing(kind, one)], [0, True])
        one[0], one[1] = one[1], one[0]
        self.assertEqual([far_above(kind, one), whole(kind, one)], [12, [3, 2, 1, 0]])
        one[1][0] = 4
        self.assertIs(is_standing(kind, one), False)
        with self.assertRaises(InvalidStanding):
            far_above(kind, one)
        one[1][0] = 3
        self.assertEqual([far_above(kind, one), how_many_beneath(kind, one[1])[0]], [12, 1])

    def test_eight_great_layers(self):
        self.assertEqual([far_above(GREAT, TOP), far_below(GREAT, TOP), far_above(GREAT, LOW)], [105, 105, 0])
        self.assertEqual([is_way(GREAT, TOP, TOP, []), joined(GREAT, TOP, LOW), odd(GREAT, TOP, LOW)], [True] * 3)
        self.assertEqual(nearer(GREAT, TOP), [(6, "lower", step) for step in range(5)])
        for other, many in ((LOW, 105), (TOP, 210)):
            found = way(GREAT, TOP, other)
            self.assertEqual((len(found), standreference.led(GREAT, TOP, found)), (many, other))
        self.assertEqual(seam_needs(GREAT, TOP, LOW), [(0, 15)] * 7)
        self.assertEqual(bounds(GREAT, TOP, LOW), (105, 105))

    def test_many_of_them(self):
        def calls():
            for function in (far_above, far_below, nearer):
                function(GREAT, TOP)
            for function in (joined, odd, way, seam_needs, bounds):
                function(GREAT, TOP, LOW)
            way(GREAT, TOP, TOP)
            is_way(GREAT, TOP, TOP, [])
        # If the wholes were worked out again and again, these took twelve seconds.
        self.assert_in_time(calls, 1000)


class Ways(InTime):
    """The shortest ways up of small standings, all of them, and the fewest deeds."""

    SMALL = [(Kind("plain", 2), 4), (Kind("plain", 3), 2), (Kind("plain", 3), 3), (Kind("mirror", 1), 4),
             (Kind("mirror", 2), 2), (Kind("ring", 2), 3), (Kind("ring", 3), 2)]

    def standings(self):
        for kind, layers in self.SMALL:
            orders = [order for _, order, _ in reference.orders_up_to(kind, 3)]
            every = standreference.standings_of(kind, orders, layers)
            for one in every[::1 + len(every) // 40] + every[-1:]:
                yield kind, one

    def ways_walked(self, kind, one, known):
        """All shortest ways up, in order: those by which far above gets less at each deed."""
        key = standreference.told(one)
        if key not in known:
            far = standreference.far_above(kind, one)
            known[key] = [[deed] + further for deed, behind in sorted(standreference.deeds(kind, one).items())
                          if standreference.far_above(kind, behind) < far
                          for further in self.ways_walked(kind, behind, known)] if far else [[]]
        return known[key]

    def test_all_numbers_of_the_shortest_ways(self):
        known = {}
        for kind, one in self.standings():
            told = self.ways_walked(kind, one, known.setdefault(kind.name(), {}))
            self.assertEqual(how_many_up(kind, one), len(told))
            self.assertEqual(way_up(kind, one), told[0])
            # Of a great many ways some numbers alone are asked for.
            for number in sorted({*range(0, len(told), 1 + len(told) // 60), len(told) - 1}):
                self.assertEqual(up_numbered(kind, one, number), told[number])

    def test_fewest_beside_a_walk(self):
        for kind, one in self.standings():
            far = standreference.walk(kind, one)
            for there in list(far)[::1 + len(far) // 25]:
                other = [list(layer) for layer in there]
                many = len([key for key in far if far[key] < far[there]])
                if many > 500:
                    with self.assertRaises(TooMany) as caught:
                        fewest(kind, one, other)
                    self.assertEqual(caught.exception.value, 501)
                else:
                    self.assertEqual(fewest(kind, one, other), far[there])

    def test_told_numbers(self):
        plain, mirror = Kind("plain", 3), Kind("mirror", 2)
        self.assertEqual([how_many_up(plain, [[2, 1, 0]] * 4), how_many_up(plain, [[2, 1, 0]] * 3)], [38, 8])
        self.assertEqual(how_many_up(mirror, [[-1, -2]] * 3), 10)
        self.assertEqual(how_many_up(Kind("plain", 4), [[3, 2, 1, 0]] * 2), 16)
        lower = [(1, "lower", 0), (1, "lower", 1), (0, "lower", 0), (0, "lower", 1), (1, "lower", 0), (0, "lower", 0)]
        self.assertEqual(up_numbered(plain, [[2, 1, 0]] * 3, 0), lower)
        self.assertEqual(fewest(mirror, [[-1, -2], [1, 2], [-1, 2]], [[1, 2], [-1, -2], [1, 2]]), 9)
        self.assertEqual(fewest(plain, [[2, 1, 0], [0, 1, 2], [1, 0, 2]], [[0, 1, 2], [2, 1, 0], [0, 1, 2]]), 7)

    def test_many_of_them(self):
        plain, mirror = Kind("plain", 3), Kind("mirror", 2)

        def calls():
            how_many_up(plain, [[2, 1, 0]] * 4)
            how_many_up(plain, [[2, 1, 0]] * 3)
            up_numbered(plain, [[2, 1, 0]] * 3, 0)
            how_many_up(mirror, [[-1, -2]] * 3)
            up_numbered(mirror, [[-1, -2]] * 3, 0)
            how_many_up(Kind("plain", 4), [[3, 2, 1, 0]] * 2)
            fewest(mirror, [[-1, -2], [1, 2], [-1, 2]], [[1, 2], [-1, -2], [1, 2]])
            fewest(plain, [[2, 1, 0], [0, 1, 2], [1, 0, 2]], [[0, 1, 2], [2, 1, 0], [0, 1, 2]])
        # If what is nearer were worked out anew for each standing, these took twelve seconds.
        self.assert_in_time(calls, 1800)


if __name__ == "__main__":
    unittest.main()
