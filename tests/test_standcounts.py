"""Points 43 to 45: standings counted."""

import math
import unittest
from fractions import Fraction

from seamlayers.beginnings import beginnings
from seamlayers.errors import InvalidKind, InvalidNumber, InvalidOrder
from seamlayers.greedy import how_many_leave
from seamlayers.kinds import Kind
from seamlayers.leastrows import how_many_least
from seamlayers.lower import how_many_beneath
from seamlayers.standcounts import how_many_standings, how_many_within, standing_powers, standing_rule
from seamlayers.standcounts import standings_by_crossings, standings_by_deeds, standings_rest

from tests import reference, standreference
from tests.support import Refusals, judge_count, judge_kind, judge_order
from tests.test_orders import GOOD, ring_with, wrong_orders

KIND = InvalidKind, judge_kind
ORDER = InvalidOrder, judge_order
LAYERS = InvalidNumber, judge_count
HUGE = 10 ** 30 - 1


def judge_modulus(_kind, value):
    return type(value) is int and 1 <= value <= 10 ** 6


def tried(kind):
    """Orders with few beneath them, the start and the greatest ones of small kinds among them."""
    told = [order for _, order, _ in reference.orders_up_to(kind, 3)]
    many = {1: 2, 2: 8, 3: 9, 4: 6, 5: 4, 6: 3, 7: 3}[kind.size()]
    chance = reference.Chance(kind.size())
    found = told[:4] + [reference.row_done(kind, kind.start(), chance.least_row(kind, many)) for _ in range(2)]
    return [order for at, order in enumerate(found) if order not in found[:at]]


def great(kind):
    """Orders with at most 300 beneath and at most 120 that begin them, as great ones as are found."""
    chance = reference.Chance(kind.size())
    found = []
    for length in range(4, 31):
        order = reference.row_done(kind, kind.start(), chance.least_row(kind, length))
        if len(reference.down(kind, order)) > 14 and kind.size() > 2:
            break
        if sum(how_many_beneath(kind, order)) <= 300 and len(beginnings(kind, order)) <= 120:
            found.append(order)
    return found[-2:]


def beneath(kind, order):
    return [list(one) for one in reference.made_by_parts(kind, reference.down(kind, order))]


def walked(kind, order, layers):
    """All standings of so many layers that are beneath an order, with their wholes: tuples (layers, whole)."""
    told = [([], kind.start())]
    below = beneath(kind, order)
    for _ in range(layers):
        told = [(one + [layer], standreference.greedy(kind, whole, layer)) for one, whole in told for layer in below]
    return told


def few_layers(kind, order, most=2500):
    """Numbers of layers of which there are not too many standings to walk over."""
    many = len(beneath(kind, order))
    return [layers for layers in range(5) if many ** layers <= most]


def counted(numbers):
    """The list of how often 0, 1, 2, .. stand among numbers."""
    return [numbers.count(number) for number in range(max(numbers) + 1)] if numbers else []


def summed(powers, layers):
    """What bases and fractions tell for so many layers."""
    return sum(base ** layers * sum(Fraction(*told) * math.comb(layers, place) for place, told in enumerate(fractions))
               for base, fractions in powers)


class HowMany(unittest.TestCase):
    def test_against_a_walk(self):
        for kind in reference.all_kinds():
            for order in tried(kind):
                for layers in few_layers(kind, order):
                    told = walked(kind, order, layers)
                    there = [one for one, whole in told if whole == order]
                    self.assertEqual(how_many_standings(kind, layers, order), len(there))
                    below = {tuple(one) for one in beneath(kind, order)}
                    within = [one for one, whole in told if tuple(whole) in below]
                    self.assertEqual(how_many_within(kind, layers, order), len(within))

    def test_layers_by_layers(self):
        # The numbers of more layers come of those of fewer ones by all ways to part them.
        for kind in reference.small_kinds():
            for order in tried(kind):
                below = beneath(kind, order)
                pairs = [(one, other) for one in below for other in below
                         if standreference.greedy(kind, one, other) == order]
                for first, second in ((1, 3), (3, 4), (7, 2)):
                    told = sum(how_many_standings(kind, first, one) * how_many_standings(kind, second, other)
                               for one, other in pairs)
                    self.assertEqual(how_many_standings(kind, first + second, order), told)

    def test_within_is_the_sum_over_all_beneath(self):
        for kind in reference.all_kinds():
            for order in tried(kind) + great(kind)[:1]:
                below = beneath(kind, order)
                for layers in ((0, 1, 2, 8) if len(below) < 40 else (2,)):
                    told = sum(how_many_standings(kind, layers, one) for one in below)
                    self.assertEqual(how_many_within(kind, layers, order), told)

    def test_no_layers_and_one(self):
        for kind in reference.all_kinds():
            for order in tried(kind) + great(kind):
                self.assertEqual(how_many_standings(kind, 0, order), 1 if order == kind.start() else 0)
                self.assertEqual(how_many_standings(kind, 1, order), 1)
                self.assertEqual(how_many_within(kind, 0, order), 1)
                self.assertEqual(how_many_within(kind, 1, order), len(beneath(kind, order)))

    def test_the_start(self):
        for kind in reference.all_kinds():
            start = kind.start()
            for layers in (0, 1, 2, 8, 200):
                self.assertEqual([how_many_standings(kind, layers, start), how_many_within(kind, layers, start)], [1, 1])
                self.assertEqual(standings_by_crossings(kind, min(layers, 12), start), [1])
                self.assertEqual(standings_by_deeds(kind, min(layers, 12), start), [1])
            self.assertEqual([standing_powers(kind, start), standing_rule(kind, start)], [[(1, [(1, 1)])], ([1], [1])])
            self.assertEqual([standings_rest(kind, HUGE, start, modulus) for modulus in (1, 2, 10 ** 6)], [0, 1, 1])

    def test_one_step(self):
        for kind in reference.all_kinds():
            for order in [order for many, order, _ in reference.orders_up_to(kind, 1) if many]:
                self.assertEqual([how_many_standings(kind, layers, order) for layers in (0, 1, 2, 3, 200)],
                                 [2 ** layers - 1 for layers in (0, 1, 2, 3, 200)])
                self.assertEqual(how_many_within(kind, 8, order), 256)

    def test_opposites_and_odd_numbers(self):
        for kind in reference.all_kinds():
            for order in tried(kind) + great(kind)[:1]:
                turned = standreference.turned(kind, order)
                for layers in (0, 1, 2, 5, 8):
                    many = how_many_standings(kind, layers, order)
                    within = how_many_within(kind, layers, order)
                    self.assertEqual(how_many_standings(kind, layers, turned), many)
                    self.assertEqual(how_many_within(kind, layers, turned), within)
                    self.assertEqual(standings_rest(kind, layers, turned, 9973), many % 9973)
                    if layers:
                        self.assertEqual(many % 2, 1)
                        self.assertEqual(within % 2, 1 if order == kind.start() else 0)

    def test_the_greatest_orders_of_a_kind(self):
        # All standings there are have a whole beneath the greatest order.
        for kind, order, many in ((Kind("plain", 4), [3, 2, 1, 0], 24), (Kind("mirror", 3), [-1, -2, -3], 48),
                                  (Kind("plain", 5), [4, 3, 2, 1, 0], 120)):
            self.assertEqual([how_many_within(kind, layers, order) for layers in range(9)],
                             [many ** layers for layers in range(9)])


class Rests(unittest.TestCase):
    def test_against_the_numbers_themselves(self):
        for kind in reference.all_kinds():
            for order in tried(kind):
                for layers in (0, 1, 2, 3, 7, 31, 64, 200):
                    many = how_many_standings(kind, layers, order)
                    for modulus in (1, 2, 7, 1000, 999999, 1000000):
                        self.assertEqual(standings_rest(kind, layers, order, modulus), many % modulus)

    def test_huge_numbers_of_layers(self):
        for kind in reference.all_kinds():
            for order in tried(kind):
                powers = standing_powers(kind, order)
                bottom = math.lcm(*(under for _, fractions in powers for _, under in fractions))
                for layers in (HUGE, 10 ** 29, 2 ** 90, 12345):
                    for modulus in (1, 2, 999999, 1000000):
                        # The fractions are brought to one bottom, so that only whole numbers are worked with.
                        told = 0
                        for base, fractions in powers:
                            part = sum(int(Fraction(*told) * bottom) * math.comb(layers, place)
                                       for place, told in enumerate(fractions))
                            told += pow(base, layers, bottom * modulus) * part
                        self.assertEqual(told % bottom, 0)
                        there = told % (bottom * modulus) // bottom
                        self.assertEqual(standings_rest(kind, layers, order, modulus), there)

    def test_one_step_and_a_huge_number(self):
        for kind in (Kind("plain", 3), Kind("mirror", 2), Kind("ring", 2)):
            order = reference.row_done(kind, kind.start(), [1])
            for modulus in (2, 7, 999999, 1000000):
                self.assertEqual(standings_rest(kind, HUGE, order, modulus), (pow(2, HUGE, modulus) - 1) % modulus)
            self.assertEqual(standings_rest(kind, HUGE, order, 1), 0)


class Rules(unittest.TestCase):
    def orders(self, kind):
        return tried(kind) + great(kind)[:1]

    def test_powers_tell_all_numbers(self):
        for kind in reference.all_kinds():
            for order in self.orders(kind):
                powers = standing_powers(kind, order)
                for layers in [*range(20), 41, 100]:
                    self.assertEqual(summed(powers, layers), how_many_standings(kind, layers, order))

    def test_form_of_powers(self):
        for kind in reference.all_kinds():
            for order in self.orders(kind):
                powers = standing_powers(kind, order)
                bases = [base for base, _ in powers]
                self.assertEqual(bases, sorted(set(bases)))
                known = {how_many_leave(kind, one) for one in beginnings(kind, order)}
                self.assertTrue(set(bases) <= known)
                self.assertEqual((type(powers), {type(one) for one in powers}), (list, {tuple}))
                for _, fractions in powers:
                    self.assertIs(type(fractions), list)
                    self.assertNotEqual(fractions[-1][0], 0)
                    for told in fractions:
                        self.assertIs(type(told), tuple)
                        top, bottom = told
                        self.assertTrue(bottom >= 1 and math.gcd(top, bottom) == 1)

    def test_bases_that_take_no_part(self):
        for kind, order in ((Kind("plain", 6), [2, 3, 5, 0, 4, 1]), (Kind("mirror", 5), [3, 5, -1, 4, 2])):
            powers = standing_powers(kind, order)
            known = {how_many_leave(kind, one) for one in beginnings(kind, order)}
            self.assertEqual(known - {base for base, _ in powers}, {8})
            first, rule = standing_rule(kind, order)
            self.assertEqual(len(rule), sum(len(fractions) for _, fractions in powers))
            for layers in (0, 1, 2, 9, 30):
                self.assertEqual(summed(powers, layers), how_many_standings(kind, layers, order))
            self.assertEqual(first, [how_many_standings(kind, layers, order) for layers in range(len(first))])
            self.assertEqual(standings_rest(kind, 77, order, 10 ** 6), how_many_standings(kind, 77, order) % 10 ** 6)

    def test_tops_below_0_and_bottoms_above_1(self):
        told = standing_powers(Kind("plain", 5), [2, 1, 4, 0, 3])
        self.assertEqual(told, [(1, [(-1, 1)]), (2, [(-6, 1), (-2, 1), (1, 1)]), (4, [(17, 2), (-4, 1), (-1, 1)]),
                                (6, [(-3, 1)]), (12, [(3, 2)])])
        self.assertEqual([summed(told, layers) for layers in range(3)], [0, 1, 63])
        self.assertEqual(standing_powers(Kind("plain", 3), [2, 1, 0])[1], (2, [(0, 1), (-2, 1)]))

    def test_rules_tell_all_numbers(self):
        for kind in reference.all_kinds():
            for order in self.orders(kind):
                first, rule = standing_rule(kind, order)
                self.assertEqual((type(first), type(rule), len(first)), (list, list, len(rule)))
                numbers = list(first)
                while len(numbers) < 60:
                    numbers.append(sum(times * number for times, number in zip(rule, numbers[::-1])))
                for layers in [*range(len(rule) + 5), 59]:
                    self.assertEqual(numbers[layers], how_many_standings(kind, layers, order))

    def test_no_shorter_rule_fits(self):
        for kind in reference.all_kinds():
            for order in self.orders(kind):
                length = len(standing_rule(kind, order)[1])
                numbers = [how_many_standings(kind, layers, order) for layers in range(2 * length)]
                # A shorter rule would make some row of this square a sum of those above it, modulo any prime, too.
                self.assertTrue(any(self.rows_are_free(numbers, length, prime)
                                    for prime in (10 ** 9 + 7, 2 ** 61 - 1, 2 ** 89 - 1)))

    def rows_are_free(self, numbers, length, prime):
        rows = [[number % prime for number in numbers[at:at + length]] for at in range(length)]
        for at in range(length):
            for below in range(at, length):
                if rows[below][at]:
                    rows[at], rows[below] = rows[below], rows[at]
                    break
            else:
                return False
            back = pow(rows[at][at], -1, prime)
            for below in range(at + 1, length):
                times = rows[below][at] * back % prime
                rows[below] = [(one - times * other) % prime for one, other in zip(rows[below], rows[at])]
        return True


class Sorted(unittest.TestCase):
    def test_against_a_walk(self):
        for kind in reference.all_kinds():
            for order in tried(kind):
                for layers in few_layers(kind, order, 1200):
                    there = [one for one, whole in walked(kind, order, layers) if whole == order]
                    told = [sum(standreference.many(kind, layer) for layer in one) for one in there]
                    self.assertEqual(standings_by_crossings(kind, layers, order), counted(told))
                    told = [standreference.far_above(kind, one) if one else 0 for one in there]
                    self.assertEqual(standings_by_deeds(kind, layers, order), counted(told))

    def test_sums_and_ends(self):
        for kind in reference.all_kinds():
            for order in tried(kind):
                if len(beneath(kind, order)) > 60:
                    continue
                many = standreference.many(kind, order)
                for layers in (1, 2, 5, 12):
                    by_crossings = standings_by_crossings(kind, layers, order)
                    by_deeds = standings_by_deeds(kind, layers, order)
                    self.assertEqual(sum(by_crossings), how_many_standings(kind, layers, order))
                    self.assertEqual(sum(by_deeds), how_many_standings(kind, layers, order))
                    self.assertEqual([len(by_deeds) - 1, by_deeds[-1]], [2 * (layers - 1) * many, 1])
                    self.assertEqual(sum(by_deeds[::2]) - sum(by_deeds[1::2]), 1)
                    self.assertEqual(sum(by_crossings[::2]) - sum(by_crossings[1::2]), -1 if many % 2 else 1)
                    self.assertNotEqual(by_crossings[-1], 0)

    def test_no_layers(self):
        for kind in reference.all_kinds():
            for order in tried(kind):
                there = [1] if order == kind.start() else []
                self.assertEqual([standings_by_crossings(kind, 0, order), standings_by_deeds(kind, 0, order)], [there] * 2)

    def test_how_many_least_rows(self):
        for kind in reference.all_kinds():
            for order in tried(kind):
                many = standreference.many(kind, order)
                if many < 9:
                    told = 0
                    for layers in range(many + 1):
                        numbers = standings_by_crossings(kind, layers, order)
                        number = numbers[many] if many < len(numbers) else 0
                        told += (-1) ** (many - layers) * math.comb(many, layers) * number
                    self.assertEqual(told, how_many_least(kind, order))


class Wrong(unittest.TestCase, Refusals):
    def test_wrong_arguments(self):
        for kind, order, _ in GOOD:
            further = [("order", wrong) for wrong in wrong_orders(kind)]
            told = [("kind", kind, *KIND), ("layers", 2, *LAYERS), ("order", order, *ORDER)]
            for function in (how_many_standings, how_many_within, standings_by_crossings, standings_by_deeds):
                self.assert_refusals(function, kind, told, further)
            more = [("modulus", wrong) for wrong in (0, -1, 10 ** 6 + 1, 10 ** 30 - 1, True, "7", [7])]
            self.assert_refusals(standings_rest, kind, told + [("modulus", 7, InvalidNumber, judge_modulus)],
                                 further + more)
            for function in (standing_powers, standing_rule):
                self.assert_refusals(function, kind, [told[0], told[2]], further)

    def test_no_layers_are_a_count(self):
        for function in (how_many_standings, how_many_within, standings_by_crossings, standings_by_deeds):
            for wrong in (False, True, -1, "2", None, [2], 10 ** 30 * -1):
                with self.assertRaises(InvalidNumber) as caught:
                    function(Kind("ring", 2), wrong, ring_with(2, 61))
                self.assertIs(caught.exception.value, wrong)


if __name__ == "__main__":
    unittest.main()
