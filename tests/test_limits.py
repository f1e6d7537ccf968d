"""Point 3: all functions work up to the limits within seconds."""

import time
import unittest

from seamlayers import beginnings, beneath, blocks, book, greedy, greedychains, joining, lacking, leastrows, lower
from seamlayers import nearest, orders, rowchains, rowmachines, rownumbers, rows, solving, standcounts, standings
from seamlayers import standnumbers, texts
from seamlayers.errors import TooMany
from seamlayers.kinds import Kind

from tests import reference
from tests.test_beneath import great_orders
from tests.test_joining import great_standings
from tests.test_orders import ring_with

# Far above what is needed, so that a slow machine fails no test.
SECONDS = 10


class Limits(unittest.TestCase):
    def in_time(self, function, *arguments):
        begun = time.monotonic()
        try:
            result = function(*arguments)
        except TooMany as caught:
            result = caught.value
        self.assertLess(time.monotonic() - begun, SECONDS, (function.__name__, arguments))
        return result

    def great_orders(self, kind):
        if kind.name() == "ring":
            return [ring_with(kind.size(), 60), reference.Chance(3).order(kind, 60)]
        return [orders.greatest(kind)]

    def test_orders_and_blocks(self):
        for kind in reference.all_kinds():
            self.in_time(orders.how_many_orders, kind, 200)
            self.in_time(orders.orders_with, kind, 200)
            self.in_time(orders.orders_with, kind, 10)
            steps = list(range(kind.steps()))
            for function in (blocks.greatest_in, blocks.how_many_in):
                self.in_time(function, kind, steps)
                self.in_time(function, kind, steps[1:])
            for order in self.great_orders(kind):
                for function in (orders.crossings, orders.falls, orders.heads, orders.opposite, blocks.steps_in):
                    self.in_time(function, kind, order)
                self.in_time(orders.product, kind, order, order)
                self.in_time(blocks.parted, kind, order, steps[1:])

    def test_orders_with_the_most_crossings(self):
        def a_thousand_rounds():
            for _ in range(1000):
                orders.orders_with(Kind("plain", 7), 21)
                orders.orders_with(Kind("mirror", 5), 25)
                orders.orders_with(Kind("ring", 5), 10)
        # If the orders with fewer crossings were gone through, these took half a minute.
        self.in_time(a_thousand_rounds)

    def test_rows(self):
        for kind in reference.all_kinds():
            chance = reference.Chance(99)
            for row in (chance.row(kind, 100), chance.least_row(kind, 100)):
                for function in (rows.made, rows.crossed, rows.is_least, rows.least_part, greedy.greedy_row,
                                 greedy.kept, greedy.kept_behind, rowchains.row_changes):
                    self.in_time(function, kind, row)
                self.in_time(rows.is_least_part, kind, row, rows.least_part(kind, row))
                self.in_time(rowchains.is_row_chain, kind, row, row, [("in", 0, 0), ("out", 0)] * 500)
            for fall in reference.falls_of(kind, rows.made(kind, row)):
                self.in_time(rows.out_for, kind, row, fall)

    def test_least_rows(self):
        for kind in reference.all_kinds():
            for order in self.great_orders(kind):
                self.in_time(leastrows.how_many_least, kind, order)
                row = self.in_time(leastrows.least_row, kind, order)
                self.in_time(leastrows.least_number, kind, row)
                self.in_time(leastrows.least_numbered, kind, order, 0)
                self.in_time(leastrows.next_least, kind, row)

    def test_chains_of_rows_of_twelve_steps(self):
        for kind in reference.all_kinds():
            chance = reference.Chance(1212)
            for _ in range(20):
                row = chance.least_row(kind, 12)
                other = reference.down(kind, rows.made(kind, row))
                chain = self.in_time(rowchains.row_chain, kind, row, other)
                self.assertIs(self.in_time(rowchains.is_row_chain, kind, row, other, chain), True)
                row = chance.row(kind, 12)
                self.in_time(rowchains.row_chain, kind, row, reference.down(kind, rows.made(kind, row)))

    def test_greedy_products(self):
        for kind in reference.all_kinds():
            self.in_time(greedy.settled_orders, kind)
            for order in self.great_orders(kind):
                for function in (greedy.greedy, greedy.lost, greedy.halves, greedy.leaves_alone):
                    self.in_time(function, kind, order, order)
                self.in_time(greedy.greedy_all, kind, [order] * 20)
                self.in_time(greedy.power, kind, order, 1000)
                self.in_time(greedy.settles, kind, order)
                self.in_time(greedy.how_many_leave, kind, order)

    def test_greedy_chains_of_rows_of_twelve_steps(self):
        for kind in reference.all_kinds():
            chance = reference.Chance(2121)
            for _ in range(20):
                row = chance.least_row(kind, 12)
                for one in (row, chance.row(kind, 12)):
                    other = reference.down(kind, greedy.greedy_row(kind, one))
                    chain = self.in_time(greedychains.chain, kind, one, other)
                    self.assertIs(self.in_time(greedychains.is_chain, kind, one, other, chain), True)

    def test_standings_of_eight_layers(self):
        for kind in reference.all_kinds():
            told = great_standings(kind)
            for one in told:
                for function in (standings.is_standing, standings.whole, standings.wholes, standings.turned,
                                 standings.deeds, joining.uppermost, joining.lowermost):
                    self.in_time(function, kind, one)
                for other in told:
                    way = self.in_time(joining.way, kind, one, other)
                    self.assertIs(self.in_time(joining.is_way, kind, one, other, way), True)
                    self.assertEqual(self.in_time(standings.led, kind, one, way), other)
                    self.in_time(joining.way_at, kind, one, other, list(range(7)))
                    self.in_time(joining.joined_at, kind, one, other, [0, 2, 4])

    def test_distances_of_standings_of_eight_layers(self):
        for kind in reference.all_kinds():
            told = great_standings(kind)
            for one in told:
                for function in (nearest.far_above, nearest.far_below, nearest.nearer, nearest.partner):
                    self.in_time(function, kind, one)
                for other in told:
                    for function in (nearest.odd, nearest.seam_needs, nearest.bounds):
                        self.in_time(function, kind, one, other)
            # The lowermost standing, one in between, and one that deeds have led away from it.
            for one, other in ((told[1], told[0]), (told[2], told[5]), (told[4], told[1])):
                self.in_time(nearest.way_up, kind, one)
                self.in_time(nearest.how_many_up, kind, one)
                self.in_time(nearest.up_numbered, kind, one, 0)
                self.in_time(nearest.fewest, kind, one, other)

    def test_great_orders_beneath_one_another(self):
        for kind in reference.all_kinds():
            told = great_orders(kind)
            row = reference.Chance(100).row(kind, 100)
            for one in told:
                self.in_time(lower.next_below, kind, one)
                self.in_time(lower.next_above, kind, one)
                self.in_time(lower.held_in, kind, one, list(range(kind.steps()))[1:])
                self.in_time(beneath.part, kind, one, row)
                for other in told[::3]:
                    for function in (beneath.is_beneath, beneath.barred_cell, lower.climb, lacking.lacking,
                                     lacking.lacking_ahead):
                        self.in_time(function, kind, one, other)
                    self.in_time(lower.factors, kind, one, other, other)
                    self.in_time(lacking.lacking_between, kind, one, one, other)

    def test_ten_thousand_orders_beneath_one(self):
        for kind in reference.all_kinds():
            row = reference.Chance(34).least_row(kind, {3: 60, 4: 29, 5: 23}.get(kind.size(), 60))
            order = rows.made(kind, row)
            many = sum(self.in_time(lower.how_many_beneath, kind, order))
            if kind.name() == "ring" and kind.size() > 2 or kind.size() == 7:
                self.assertGreater(many, 3000)
            last = self.in_time(lower.beneath_numbered, kind, order, many - 1)
            self.assertEqual(self.in_time(lower.beneath_number, kind, order, last), many - 1)

    def test_two_thousand_orders_beneath_one(self):
        for kind in reference.all_kinds():
            row = reference.Chance(35).least_row(kind, {3: 42, 4: 19, 5: 16, 7: 13}.get(kind.size(), 60))
            order = rows.made(kind, row)
            found = self.in_time(lower.how_many_between, kind, kind.start(), order)
            self.assertEqual(found, lower.how_many_beneath(kind, order))
            self.in_time(lower.how_many_between, kind, rows.made(kind, row[:1]), order)

    def test_great_orders_that_begin_one_another(self):
        for kind in reference.all_kinds():
            for one in great_orders(kind):
                self.in_time(beginnings.how_many_beginnings, kind, one)
                self.in_time(beginnings.beginnings, kind, one)
                for other in great_orders(kind)[::2]:
                    for function in (beginnings.begins, beginnings.ends, beginnings.rest, beginnings.rest_ahead,
                                     beginnings.apart, beginnings.greatest_beginning, beginnings.greatest_ending,
                                     beginnings.least_going_on, beginnings.least_ended, beginnings.round_of):
                        self.in_time(function, kind, one, other)

    def test_goals(self):
        for kind in reference.all_kinds():
            row = reference.Chance(42).least_row(kind, 10 if kind.name() == "ring" else 25)
            goal = rows.made(kind, row)
            for many in (0, 1, len(row) // 2, len(row)):
                order = rows.made(kind, row[:many])
                for function in (solving.solvable, solving.least_solution, solving.solutions,
                                 solving.how_many_solutions, solving.greatest_solutions):
                    self.in_time(function, kind, order, goal)
                self.in_time(solving.solutions_ahead, kind, rows.made(kind, row[many:]), goal)

    def test_standings_counted(self):
        for kind in reference.all_kinds():
            for order in counted_orders(kind, 300, 120):
                self.in_time(standcounts.how_many_standings, kind, 200, order)
                self.in_time(standcounts.how_many_within, kind, 8, order)
                self.in_time(standcounts.standing_powers, kind, order)
                self.in_time(standcounts.standing_rule, kind, order)
            for order in counted_orders(kind, 300, 40):
                self.in_time(standcounts.standings_rest, kind, 10 ** 30 - 1, order, 999999)
            for order in counted_orders(kind, 60, 120):
                self.in_time(standcounts.standings_by_crossings, kind, 12, order)
                self.in_time(standcounts.standings_by_deeds, kind, 12, order)

    def test_standings_by_their_number(self):
        for kind in reference.all_kinds():
            for order in counted_orders(kind, 300, 120):
                many = standcounts.how_many_standings(kind, 8, order)
                one = self.in_time(standnumbers.standing_numbered, kind, 8, order, many // 2)
                self.assertEqual(self.in_time(standnumbers.standing_number, kind, one), many // 2)
                self.in_time(standnumbers.next_standing, kind, one)

    def test_machines_and_rows_by_their_number(self):
        told = [(kind, order) for kind in reference.all_kinds() for order in great_orders(kind)[:3]]
        told += [(Kind("ring", 4), [-9, 29, 8, -22]), (Kind("ring", 5), [-2, -18, -6, 20, 16])]
        for kind, order in told:
            row = rows.made(kind, reference.down(kind, order)[:1]), order
            for function in (rowmachines.row_machine, rowmachines.state_orders):
                self.in_time(function, kind, order)
            for one in (kind.start(), *row):
                self.in_time(rownumbers.how_many_rows, kind, one, order, 300)
                self.in_time(rownumbers.fall_rule, kind, one, order)
            first = self.in_time(rownumbers.first_with, kind, order, 100)
            if isinstance(first, list):
                self.in_time(rownumbers.row_number, kind, first)
                self.in_time(rownumbers.next_row, kind, first)
                self.in_time(rownumbers.row_numbered, kind, order, 100, 0)
            self.in_time(rownumbers.how_many_staying, kind, order, 300)
            self.in_time(rownumbers.last_staying, kind, order, reference.Chance(7).row(kind, 100))
        for kind, order in ((Kind("mirror", 5), [4, -5, -3, -2, 1]), (Kind("ring", 3), [-21, 26, -2])):
            self.assertGreater(self.in_time(rownumbers.how_many_staying, kind, order, 300), 1001)

    def test_sheets(self):
        for kind in reference.all_kinds():
            told = (great_standings(kind) * 50)[:50]
            row = reference.Chance(8).row(kind, 100)
            text = self.in_time(texts.sheet_text, kind, told, [row] * 100)
            self.assertEqual(self.in_time(texts.read_sheet, text), (kind, told, [row] * 100))
            self.assertIsNone(self.in_time(texts.wrong_line, text))

    def test_books_of_two_hundred_deeds(self):
        for kind in reference.all_kinds():
            for standing in great_standings(kind)[:3]:
                kept = book.Book(kind, standing)
                chance = reference.Chance(9)

                def two_hundred():
                    for _ in range(200):
                        there = standings.deeds(kind, kept.layers)
                        if there:
                            kept.do(there[chance.below(len(there))])
                self.in_time(two_hundred)
                for function in (book.fars, book.without_rounds, book.touched, book.is_direct, book.Book.copy):
                    self.in_time(function, kept)
                self.in_time(book.layers_at, kept, kept.many_deeds)
                self.in_time(book.since_equal, kept, 0)
                self.assertIs(self.in_time(book.books_joined, kept, kept.copy()), True)

    def test_a_great_many_calls(self):
        plain, ring = Kind("plain", 5), Kind("ring", 4)

        def calls():
            chance = reference.Chance(5)
            for _ in range(300):
                for kind in (plain, ring):
                    row = chance.least_row(kind, 6)
                    order, whole = rows.made(kind, row[:3]), rows.made(kind, row)
                    beginnings.beginnings(kind, whole)
                    beginnings.least_going_on(kind, order, whole)
                    solving.greatest_solutions(kind, order, whole)
                    standcounts.how_many_standings(kind, 8, whole)
                    standcounts.standing_rule(kind, whole)
                    one = standnumbers.standing_numbered(kind, 3, whole, 1)
                    standnumbers.next_standing(kind, one)
                    rowmachines.row_machine(kind, whole)
                    rownumbers.next_row(kind, rownumbers.first_with(kind, whole, 12))
                    texts.read_sheet(texts.sheet_text(kind, [one], [row]))
                    kept = book.Book(kind, one)
                    kept.together(standings.deeds(kind, one)[:1])
                    book.fars(kept)
        self.in_time(calls)


def counted_orders(kind, beneath_most, begun_most):
    """The two greatest of some orders that have at most so many beneath, and that at most so many begin."""
    chance = reference.Chance(43 * kind.size())
    found = []
    for length in range(31):
        for _ in range(6):
            order = rows.made(kind, chance.least_row(kind, length))
            if len(reference.down(kind, order)) > 13 and kind.size() > 2:
                continue
            many, begun = sum(lower.how_many_beneath(kind, order)), beginnings.how_many_beginnings(kind, order)
            if many <= beneath_most and begun <= begun_most:
                found.append((many + 2 * begun, order))
    return [order for _, order in sorted(found)[-2:]]


if __name__ == "__main__":
    unittest.main()
