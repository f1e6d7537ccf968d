"""Point 2: arguments are neither changed nor kept, results are new, equal calls tell equal things."""

import unittest

from seamlayers import beginnings, beneath, blocks, book, greedy, greedychains, joining, lacking, leastrows, lower
from seamlayers import nearest, orders, pairs, rowchains, rowmachines, rownumbers, rows, solving, standcounts
from seamlayers import standings, standnumbers, texts, unfolding
from seamlayers.kinds import Kind, wait

from tests.support import Apart

PLAIN, WIDE, MIRROR = Kind("plain", 3), Kind("plain", 4), Kind("mirror", 2)
RING, PAIR = Kind("ring", 3), Kind("ring", 2)

ORDERS = [(PLAIN, [2, 0, 1], [1, 0, 2]), (PLAIN, [0, 1, 2], [0, 1, 2]), (WIDE, [3, 2, 1, 0], [0, 1, 2, 3]),
          (MIRROR, [-2, 1], [-1, -2]), (RING, [-1, 0, 4], [0, 1, 2]), (PAIR, [3, -2], [3, -2])]

# Each with an order, and with a row that makes it.
ROWS = [(PLAIN, [2, 1, 0], [0, 1, 0]), (PLAIN, [1, 2, 0], [0, 0, 0, 1]), (WIDE, [1, 3, 0, 2], [0, 2, 1]),
        (MIRROR, [-1, -2], [1, 0, 1, 0]), (RING, [0, -1, 4], [2, 0, 2]), (PAIR, [3, -2], [0, 1, 0, 1, 1])]

# Each with a standing, and with a joined one.
STANDINGS = [(PLAIN, [[1, 0, 2], [0, 2, 1]], [[1, 2, 0], [0, 1, 2]]), (PLAIN, [[0, 1, 2]], [[0, 1, 2]]),
             (WIDE, [[3, 2, 1, 0]] * 3, [[0, 1, 2, 3], [3, 2, 1, 0], [0, 1, 2, 3]]),
             (MIRROR, [[-1, 2], [1, 2], [-1, 2]], [[1, 2], [-1, 2], [1, 2]]),
             (RING, [[-1, 0, 4], [0, 1, 2]], [[-1, 0, 4], [-1, 0, 4]]), (PAIR, [[3, -2]], [[3, -2]])]


class Calls(unittest.TestCase, Apart):
    def test_kinds(self):
        for kind in (PLAIN, WIDE, MIRROR, RING, PAIR):
            self.assert_apart(Kind.start, (kind,))
            self.assert_apart(wait, (kind, 0, 1))

    def test_orders(self):
        for kind, one, other in ORDERS:
            for function in (orders.is_order, orders.crossings, orders.falls, orders.heads, orders.opposite):
                self.assert_apart(function, (kind, one))
            for step in range(kind.steps()):
                self.assert_apart(orders.stepped, (kind, one, step))
                self.assert_apart(orders.stepped_ahead, (kind, one, step))
            self.assert_apart(orders.product, (kind, one, other))
            self.assert_apart(orders.product, (kind, other, other))
            self.assert_apart(orders.greatest, (kind,))
            for many in range(4):
                self.assert_apart(orders.how_many_orders, (kind, many))
                self.assert_apart(orders.orders_with, (kind, many))

    def test_blocks(self):
        for kind, one, _ in ORDERS:
            self.assert_apart(blocks.steps_in, (kind, one))
            for block in ([], [0], [0, 1], list(range(kind.steps()))):
                self.assert_apart(blocks.greatest_in, (kind, block))
                self.assert_apart(blocks.parted, (kind, one, block))
                self.assert_apart(blocks.how_many_in, (kind, block))

    def test_rows(self):
        for kind, order, row in ROWS:
            for function in (rows.is_row, rows.made, rows.crossed, rows.is_least, rows.least_part,
                             greedy.greedy_row, greedy.kept, greedy.kept_behind, rowchains.row_changes):
                self.assert_apart(function, (kind, row))
            self.assert_apart(rows.alike, (kind, row, row + row))
            self.assert_apart(rows.crossed_in, (kind, order))
            for value in ([], [0], [0, 1], (0,), None):
                self.assert_apart(rows.is_least_part, (kind, row, value))
            self.assert_apart(rows.out_for, (kind, [0, 1], 1))

    def test_least_rows(self):
        for kind, order, _ in ROWS:
            self.assert_apart(leastrows.least_row, (kind, order))
            self.assert_apart(leastrows.how_many_least, (kind, order))
            for number in range(leastrows.how_many_least(kind, order)):
                self.assert_apart(leastrows.least_numbered, (kind, order, number))
                row = leastrows.least_numbered(kind, order, number)
                self.assert_apart(leastrows.least_number, (kind, row))
                self.assert_apart(leastrows.next_least, (kind, row))

    def test_chains_of_rows(self):
        for kind, order, row in ROWS:
            for change in rowchains.row_changes(kind, row) + [("in", 0, 0), ("in", len(row), 1)]:
                self.assert_apart(rowchains.row_changed, (kind, row, change))
            for other in (row, leastrows.least_row(kind, order), [0], [1, 1] + row):
                self.assert_apart(rowchains.row_chain, (kind, row, other))
                for value in ([], [("in", 0, 1)], [("out", 0)], None):
                    self.assert_apart(rowchains.is_row_chain, (kind, row, other, value))

    def test_greedy_products(self):
        for kind, one, other in ORDERS:
            for step in range(kind.steps()):
                self.assert_apart(greedy.gained, (kind, one, step))
                self.assert_apart(greedy.gained_ahead, (kind, one, step))
            for function in (greedy.greedy, greedy.lost, greedy.halves, greedy.leaves_alone):
                self.assert_apart(function, (kind, one, other))
                self.assert_apart(function, (kind, other, one))
            for told in ([], [one], [one, other], [other, one, one]):
                self.assert_apart(greedy.greedy_all, (kind, told))
            for count in range(4):
                self.assert_apart(greedy.power, (kind, one, count))
                self.assert_apart(greedy.power, (kind, kind.start(), count))
            for function in (greedy.how_many_leave, greedy.settles):
                self.assert_apart(function, (kind, one))
            self.assert_apart(greedy.settled_orders, (kind,))

    def test_greedy_chains(self):
        for kind, order, row in ROWS:
            for other in (row, row + row[-1:], [0], [1, 1] + row):
                self.assert_apart(greedychains.greedily_alike, (kind, row, other))
                self.assert_apart(greedychains.chain, (kind, row, other))
                for value in ([row], [row, other], [], [[0], [0, 0]], None):
                    self.assert_apart(greedychains.is_chain, (kind, row, other, value))

    def test_unfolding(self):
        for order in ([-1], [2, -1], [-3, 1, 2]):
            self.assert_apart(unfolding.unfolded, (order, len(order)))
            self.assert_apart(unfolding.folded, (unfolding.unfolded(order, len(order)), len(order)))
        self.assert_apart(unfolding.folded, ([1, 0, 2, 3], 2))

    def test_standings(self):
        for kind, one, other in STANDINGS:
            for standing in (one, other):
                for function in (standings.is_standing, standings.whole, standings.wholes, standings.turned,
                                 standings.deeds, joining.uppermost, joining.lowermost):
                    self.assert_apart(function, (kind, standing))
                for deed in standings.deeds(kind, standing):
                    self.assert_apart(standings.done, (kind, standing, deed))
                    self.assert_apart(standings.led, (kind, standing, [deed, deed]))
                self.assert_apart(standings.led, (kind, standing, []))

    def test_joining(self):
        for kind, one, other in STANDINGS:
            for first, second in ((one, other), (other, one), (one, one), (one, one[::-1])):
                self.assert_apart(joining.joined, (kind, first, second))
                self.assert_apart(joining.way, (kind, first, second))
                for value in (joining.way(kind, first, second), [], [(0, "upper", 0)], None):
                    self.assert_apart(joining.is_way, (kind, first, second, value))
                for seams in ([], list(range(len(one) - 1))):
                    self.assert_apart(joining.joined_at, (kind, first, second, seams))
                    self.assert_apart(joining.way_at, (kind, first, second, seams))

    def test_nearest(self):
        for kind, one, other in STANDINGS:
            for standing in (one, other):
                for function in (nearest.far_above, nearest.far_below, nearest.nearer, nearest.partner,
                                 nearest.way_up, nearest.how_many_up):
                    self.assert_apart(function, (kind, standing))
                self.assert_apart(nearest.up_numbered, (kind, standing, 0))
            for first, second in ((one, other), (other, one), (one, one), (one, one[::-1])):
                for function in (nearest.odd, nearest.seam_needs, nearest.bounds):
                    self.assert_apart(function, (kind, first, second))
                # From great layers to others more than 500 standings are led to by fewer deeds.
                if kind != WIDE or first == second:
                    self.assert_apart(nearest.fewest, (kind, first, second))

    def test_beneath(self):
        for kind, one, other in ORDERS:
            for first, second in ((one, other), (other, one), (one, one)):
                self.assert_apart(beneath.is_beneath, (kind, first, second))
                self.assert_apart(beneath.barred_cell, (kind, first, second))
                for value in ((0, 1), (1, 1), [0, 1], None):
                    self.assert_apart(beneath.is_barred, (kind, first, second, value))
            self.assert_apart(beneath.ahead, (kind, one, 1, 1))
        for kind, order, row in ROWS:
            self.assert_apart(beneath.part, (kind, order, row))
            for value in (beneath.part(kind, order, row), [], [0], None):
                self.assert_apart(beneath.is_part, (kind, order, row, value))

    def test_lower(self):
        for kind, one, other in ORDERS:
            for function in (lower.next_below, lower.next_above, lower.how_many_beneath):
                self.assert_apart(function, (kind, one))
            for first, second in ((one, other), (other, one), (one, one), (kind.start(), one)):
                for function in (lower.climb, lower.how_many_between):
                    self.assert_apart(function, (kind, first, second))
                for value in (lower.climb(kind, first, second), [first], [first, second], None):
                    self.assert_apart(lower.is_climb, (kind, first, second, value))
                self.assert_apart(lower.beneath_number, (kind, first, second))
                for order in (first, second, kind.start()):
                    self.assert_apart(lower.factors, (kind, order, first, second))
                    for value in ((first, second), (order, order), [order], None):
                        self.assert_apart(lower.are_factors, (kind, order, first, second, value))
            self.assert_apart(lower.beneath_numbered, (kind, one, 0))
            for block in ([], [0], list(range(kind.steps()))):
                self.assert_apart(lower.held_in, (kind, one, block))

    def test_lacking(self):
        for kind, one, other in ORDERS:
            for first, second in ((one, other), (other, one), (one, one), (kind.start(), one)):
                self.assert_apart(lacking.lacking, (kind, first, second))
                self.assert_apart(lacking.lacking_ahead, (kind, first, second))
                self.assert_apart(lacking.lacking_between, (kind, first, second, one))
                self.assert_apart(lacking.lacking_between, (kind, kind.start(), kind.start(), one))

    def test_pairs_and_beginnings(self):
        for kind, one, other in ORDERS:
            low, high = (-1, 1) if kind.name() == "mirror" else (0, 1)
            self.assert_apart(pairs.pair_crossed, (kind, one, low, high))
            for first, second in ((one, other), (other, one), (one, one), (kind.start(), one)):
                for function in (beginnings.begins, beginnings.ends, beginnings.rest, beginnings.rest_ahead,
                                 beginnings.apart, beginnings.greatest_beginning, beginnings.greatest_ending,
                                 beginnings.least_going_on, beginnings.least_ended, beginnings.round_of):
                    self.assert_apart(function, (kind, first, second))
                for value in ((low, high), [low, high], [0, 2, 3], None):
                    self.assert_apart(beginnings.is_apart, (kind, first, second, value))
                    self.assert_apart(beginnings.is_round, (kind, first, second, value))
            for function in (beginnings.beginnings, beginnings.how_many_beginnings):
                self.assert_apart(function, (kind, one))
        for kind, one, other in ((RING, [1, 2, 0], [-1, 1, 3]), (PAIR, [1, 0], [-1, 2])):
            self.assert_apart(beginnings.round_of, (kind, one, other))

    def test_solving(self):
        for kind, one, other in ORDERS:
            for order, goal in ((one, other), (other, one), (one, one), (kind.start(), one)):
                for function in (solving.solvable, solving.least_solution, solving.solutions, solving.solutions_ahead,
                                 solving.how_many_solutions, solving.greatest_solutions):
                    self.assert_apart(function, (kind, order, goal))

    def test_standings_counted(self):
        for kind, one, _ in ORDERS:
            for order in (one, kind.start()):
                for function in (standcounts.standing_powers, standcounts.standing_rule):
                    self.assert_apart(function, (kind, order))
                for layers in (0, 1, 3):
                    for function in (standcounts.how_many_standings, standcounts.how_many_within,
                                     standcounts.standings_by_crossings, standcounts.standings_by_deeds):
                        self.assert_apart(function, (kind, layers, order))
                    self.assert_apart(standcounts.standings_rest, (kind, layers, order, 7))

    def test_standings_by_their_number(self):
        for kind, one, _ in STANDINGS:
            for function in (standnumbers.standing_number, standnumbers.next_standing):
                self.assert_apart(function, (kind, one))
            for layers in (1, 2):
                self.assert_apart(standnumbers.standing_numbered, (kind, layers, standings.whole(kind, one), 0))

    def test_machines_and_rows_by_their_number(self):
        for kind, order, row in ROWS:
            for function in (rowmachines.row_machine, rowmachines.state_orders):
                self.assert_apart(function, (kind, order))
            for one in (kind.start(), order):
                self.assert_apart(rownumbers.how_many_rows, (kind, one, order, 6))
                self.assert_apart(rownumbers.fall_rule, (kind, one, order))
            for length in (0, 6, 9):
                self.assert_apart(rownumbers.first_with, (kind, order, length))
                self.assert_apart(rownumbers.how_many_staying, (kind, order, length))
            self.assert_apart(rownumbers.row_numbered, (kind, order, 6, 0))
            for function in (rownumbers.row_number, rownumbers.next_row):
                self.assert_apart(function, (kind, row))
            self.assert_apart(rownumbers.last_staying, (kind, order, row + row))

    def test_texts(self):
        for kind, one, other in STANDINGS:
            for rows_told in ([], [[0, 1], []]):
                self.assert_apart(texts.sheet_text, (kind, [one, other], rows_told))
                text = texts.sheet_text(kind, [one, other], rows_told)
                self.assert_apart(texts.read_sheet, (text,))
                self.assert_apart(texts.wrong_line, (text,))
                self.assert_apart(texts.wrong_line, (text + "row none",))

    def test_books(self):
        for kind, one, other in STANDINGS:
            kept, further = book.Book(kind, one), book.Book(kind, other)
            kept.together((standings.deeds(kind, one)[:1]) * 3)
            for function in (book.fars, book.without_rounds, book.touched):
                self.assert_apart(function, (kept,))
            if kind != WIDE:
                self.assert_apart(book.is_direct, (kept,))
            for number in (0, kept.many_deeds):
                self.assert_apart(book.layers_at, (kept, number))
            self.assert_apart(book.since_equal, (kept, 0))
            self.assert_apart(book.books_joined, (kept, further))
            self.assert_apart(book.Book.log, (kept,))
            self.assert_apart(lambda kept: kept.layers, (kept,))
            self.assert_apart(lambda kept: kept.many_deeds, (kept,))
            self.assert_apart(lambda kind, one, deeds: book.Book(kind, one).together(deeds),
                              (kind, one, standings.deeds(kind, one)[:1] * 2))

    def test_one_list_for_all_layers(self):
        for kind, one, _ in ORDERS:
            for function in (standings.wholes, standings.turned, joining.uppermost, nearest.partner):
                self.assert_apart(lambda kind, order, told=function: told(kind, [order] * 3), (kind, one))
            self.assert_apart(lambda kind, order: standings.led(kind, [order] * 3, []), (kind, one))

    def test_one_list_for_both_orders(self):
        for kind, one, _ in ORDERS:
            self.assert_apart(lambda kind, order: orders.product(kind, order, order), (kind, one))
            self.assert_apart(lambda kind, order: greedy.halves(kind, order, order), (kind, one))
            self.assert_apart(lambda kind, order: greedy.greedy_all(kind, [order, order]), (kind, one))
            self.assert_apart(lambda kind, order: lower.climb(kind, order, order), (kind, one))
            self.assert_apart(lambda kind, order: beginnings.greatest_beginning(kind, order, order), (kind, one))
            self.assert_apart(lambda kind, order: beginnings.least_going_on(kind, order, order), (kind, one))
            self.assert_apart(lambda kind, order: solving.solutions(kind, order, order), (kind, one))
            self.assert_apart(lambda kind, order: lower.factors(kind, order, order, order), (kind, one))


if __name__ == "__main__":
    unittest.main()
