"""Point 42: greedy products undone."""

import unittest

from seamlayers.beneath import is_beneath
from seamlayers.beginnings import begins, rest
from seamlayers.errors import InvalidKind, InvalidOrder, TooMany
from seamlayers.greedy import greedy, how_many_leave
from seamlayers.kinds import Kind
from seamlayers.lower import next_above
from seamlayers.orders import greatest
from seamlayers.solving import greatest_solutions, how_many_solutions, least_solution, solutions, solutions_ahead
from seamlayers.solving import solvable

from tests import beginreference, reference, standreference
from tests.support import Refusals, judge_kind, judge_order
from tests.test_beneath import some_orders
from tests.test_orders import GOOD, wrong_orders

KIND = InvalidKind, judge_kind
ORDER = InvalidOrder, judge_order
ALL = [solvable, least_solution, solutions, how_many_solutions, greatest_solutions, solutions_ahead]

# Goals with an order that has so many solutions.
MANY = [(Kind("mirror", 5), [4, -5, -3, -2, 1], [-1, -2, -3, -4, -5], 1000),
        (Kind("mirror", 5), [1, -2, 5, -4, -3], [-1, -2, -3, -4, -5], 996)]
MORE = [(Kind("plain", 7), [2, 5, 6, 0, 3, 4, 1], [6, 5, 4, 3, 2, 1, 0], 1004),
        (Kind("plain", 7), [6, 5, 4, 3, 2, 1, 0], [6, 5, 4, 3, 2, 1, 0], 5040),
        (Kind("mirror", 5), [-1, -2, -3, -4, -5], [-1, -2, -3, -4, -5], 3840)]


def tried(kind):
    """Orders and goals: all with few crossings, and thrown ones of which many are solvable."""
    few = some_orders(kind, 3)[:16]
    told = [(order, goal) for order in few for goal in few]
    chance = reference.Chance(13 * kind.size())
    for _ in range(6):
        goal = reference.row_done(kind, kind.start(), chance.least_row(kind, 7))
        begun = sorted(beginreference.begun_by(kind, goal))
        told += [(list(order), goal) for order in begun[::4]]
    return told


class Solving(unittest.TestCase, Refusals):
    def check(self, kind, order, goal):
        there = beginreference.solutions(kind, order, goal)
        found = solutions(kind, order, goal)
        self.assertEqual(found, there)
        self.assertEqual(how_many_solutions(kind, order, goal), len(there))
        self.assertIs(solvable(kind, order, goal), bool(there))
        least = [one for one in there if all(is_beneath(kind, one, other) for other in there)]
        self.assertEqual(least_solution(kind, order, goal), least[0] if there else None)
        uppermost = [one for one in there if not [other for other in there
                                                  if one != other and is_beneath(kind, one, other)]]
        self.assertEqual(greatest_solutions(kind, order, goal), uppermost)

    def test_against_a_search(self):
        for kind in reference.all_kinds():
            for order, goal in tried(kind)[::1 if kind.size() < 4 else 3]:
                self.check(kind, order, goal)

    def test_ahead_against_a_search(self):
        for kind in reference.all_kinds():
            for order, goal in tried(kind)[::2]:
                turned = standreference.turned(kind, order), standreference.turned(kind, goal)
                for here, there in ((order, goal), turned):
                    beneath = reference.made_by_parts(kind, reference.down(kind, there))
                    told = sorted(list(one) for one in beneath
                                  if standreference.greedy(kind, list(one), here) == there)
                    self.assertEqual(solutions_ahead(kind, here, there), told)

    def test_all_orders_of_small_kinds(self):
        for kind in (Kind("plain", 3), Kind("mirror", 2)):
            every = [order for _, order, _ in reference.orders_up_to(kind, 9)]
            for order in every:
                for goal in every:
                    self.check(kind, order, goal)
                    there = sorted(one for one in every if standreference.greedy(kind, order, one) == goal)
                    self.assertEqual(solutions(kind, order, goal), there)

    def test_solvable_is_to_begin(self):
        for kind in reference.all_kinds():
            for order, goal in tried(kind):
                self.assertIs(solvable(kind, order, goal), begins(kind, order, goal))
                self.assertEqual(least_solution(kind, order, goal), rest(kind, order, goal))

    def test_rings_with_ten_crossings(self):
        for size in (2, 3, 4, 5):
            kind = Kind("ring", size)
            chance = reference.Chance(size)
            for _ in range(4):
                row = chance.least_row(kind, 10)
                goal = reference.row_done(kind, kind.start(), row)
                for many in (0, 4, 7, 10):
                    order = reference.row_done(kind, kind.start(), row[:many])
                    found = solutions(kind, order, goal)
                    self.assertIn(reference.row_done(kind, kind.start(), row[many:]), found)
                    self.assertEqual(found, sorted(found))
                    self.assertEqual([one for one in found if greedy(kind, order, one) != goal], [])
                    if many in (4, 7):
                        self.check(kind, order, goal)

    def test_greatest_ones_have_no_solution_next_above(self):
        for kind in reference.all_kinds():
            for order, goal in tried(kind)[::5]:
                found = solutions(kind, order, goal)
                there = [one for one in found if not [above for above in next_above(kind, one) if above in found]]
                self.assertEqual(greatest_solutions(kind, order, goal), there)

    def test_no_solution(self):
        for kind, order, goal in ((Kind("plain", 4), [0, 2, 1, 3], [1, 0, 2, 3]), (Kind("mirror", 2), [2, 1], [-1, 2]),
                                  (Kind("ring", 3), [1, 0, 2], [0, 1, 2]), (Kind("plain", 2), [1, 0], [0, 1])):
            self.assertEqual([solvable(kind, order, goal), least_solution(kind, order, goal)], [False, None])
            self.assertEqual([solutions(kind, order, goal), how_many_solutions(kind, order, goal)], [[], 0])
            self.assertEqual([greatest_solutions(kind, order, goal), solutions_ahead(kind, order, goal)], [[], []])

    def test_the_start_and_equal_orders(self):
        for kind in reference.all_kinds():
            start = kind.start()
            for order in some_orders(kind)[:25]:
                self.assertEqual([solutions(kind, start, order), solutions_ahead(kind, start, order)], [[order]] * 2)
                self.assertEqual(greatest_solutions(kind, start, order), [order])
                self.assertEqual(least_solution(kind, order, order), start)
                self.assertEqual(how_many_solutions(kind, order, order), how_many_leave(kind, order))

    def test_a_thousand_solutions_and_more(self):
        for kind, order, goal, many in MANY:
            found = solutions(kind, order, goal)
            self.assertEqual([len(found), how_many_solutions(kind, order, goal)], [many, many])
            self.assertEqual([one for one in found[::37] if greedy(kind, order, one) != goal], [])
            self.assertEqual(greatest_solutions(kind, order, goal), [greatest(kind)])
            turned = standreference.turned(kind, order), standreference.turned(kind, goal)
            ahead = solutions_ahead(kind, *turned)
            self.assertEqual(ahead, sorted(standreference.turned(kind, one) for one in found))
        for kind, order, goal, many in MORE:
            self.assertEqual(how_many_solutions(kind, order, goal), many)
            turned = standreference.turned(kind, order), standreference.turned(kind, goal)
            calls = [(solutions, order, goal), (greatest_solutions, order, goal), (solutions_ahead, *turned)]
            for function, one, other in calls:
                with self.assertRaises(TooMany) as caught:
                    function(kind, one, other)
                self.assertEqual(caught.exception.value, 1001)
            self.assertIs(solvable(kind, order, goal), True)
            self.assertEqual(least_solution(kind, order, goal), rest(kind, order, goal))

    def test_wrong_arguments(self):
        for kind, one, other in GOOD:
            further = [(name, wrong) for wrong in wrong_orders(kind) for name in ("order", "goal")]
            told = [("kind", kind, *KIND), ("order", one, *ORDER), ("goal", other, *ORDER)]
            for function in ALL:
                self.assert_refusals(function, kind, told, further)


if __name__ == "__main__":
    unittest.main()
