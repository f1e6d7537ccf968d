"""Points 47 and 48: the least machine for all rows of an order."""

import unittest

from seamlayers.beginnings import beginnings, how_many_beginnings
from seamlayers.errors import InvalidKind, InvalidOrder, TooMany
from seamlayers.greedy import greedy_row
from seamlayers.kinds import Kind
from seamlayers.orders import greatest
from seamlayers.rowmachines import row_machine, state_orders

from tests import reference
from tests.support import Refusals, judge_kind, judge_order
from tests.test_beneath import some_orders
from tests.test_orders import GOOD, ring_with, wrong_orders

KIND = InvalidKind, judge_kind
ORDER = InvalidOrder, judge_order


def tried(kind):
    """Orders with few crossings, thrown ones, and the greatest one."""
    chance = reference.Chance(3 * kind.size())
    most = 9 if kind.size() < 5 else 6
    told = some_orders(kind, 3)[:12]
    told += [reference.row_done(kind, kind.start(), chance.least_row(kind, most)) for _ in range(3)]
    if kind.name() == "ring" or kind.size() > 4:
        return told
    return told + [greatest(kind)]


def led(lines, row):
    """The state to which a row leads."""
    state = 0
    for step in row:
        state = lines[state][step]
    return state


def classes(lines, last):
    """How many classes of states there are, of which each two are told apart by some row."""
    told = [state == last for state in range(len(lines))]
    while True:
        signs = [(told[state], tuple(told[there] for there in lines[state])) for state in range(len(lines))]
        numbers = {sign: number for number, sign in enumerate(dict.fromkeys(signs))}
        further = [numbers[sign] for sign in signs]
        if len(set(further)) == len(set(told)):
            return len(set(told))
        told = further


class Machines(unittest.TestCase, Refusals):
    def test_all_short_rows(self):
        for kind in reference.all_kinds():
            length = {0: 3, 1: 7, 2: 7, 3: 5, 4: 4, 5: 4, 6: 4}[kind.steps()]
            for order in tried(kind):
                lines, last = row_machine(kind, order)
                told = state_orders(kind, order)
                for row in reference.rows_up_to(kind, length):
                    state = led(lines, row)
                    there = reference.gains(kind, kind.start(), row)
                    self.assertIs(state == last, there == order)
                    if told[state] is not None:
                        self.assertEqual(told[state], there)

    def test_long_rows(self):
        for kind in reference.all_kinds():
            chance = reference.Chance(48)
            for order in tried(kind):
                lines, last = row_machine(kind, order)
                told = state_orders(kind, order)
                for _ in range(20):
                    row = chance.row(kind, 100)
                    self.assertIs(led(lines, row) == last, greedy_row(kind, row) == order)
                down = reference.down(kind, order)
                for at in range(len(down) + 1):
                    # Each step is done again and again: this leads nowhere else.
                    row = [step for step in down[:at] for _ in range(3)]
                    self.assertEqual(told[led(lines, row)], reference.gains(kind, kind.start(), row))
                self.assertEqual(led(lines, down), last)

    def test_form_and_numbers(self):
        for kind in reference.all_kinds():
            for order in tried(kind):
                lines, last = row_machine(kind, order)
                self.assertEqual({len(line) for line in lines}, {kind.steps()})
                found = [0]
                for state in range(len(lines)):
                    for there in lines[found[state]]:
                        if there not in found:
                            found.append(there)
                self.assertEqual(found, list(range(len(lines))))
                self.assertEqual(state_orders(kind, order)[last], order)
                self.assertEqual(state_orders(kind, order)[0], kind.start())

    def test_no_machine_has_fewer_states(self):
        for kind in reference.all_kinds():
            for order in tried(kind):
                lines, last = row_machine(kind, order)
                self.assertEqual(classes(lines, last), len(lines))

    def test_states_are_the_beginnings(self):
        for kind in reference.all_kinds():
            for order in tried(kind):
                told = state_orders(kind, order)
                lines, last = row_machine(kind, order)
                self.assertEqual(len(told), len(lines))
                self.assertEqual(sorted(one for one in told if one is not None), beginnings(kind, order))
                self.assertEqual(told.count(None), 0 if order == greatest(kind) else 1)
                if None in told:
                    lost = told.index(None)
                    self.assertEqual(lines[lost], [lost] * kind.steps())

    def test_the_start_and_the_greatest_order(self):
        for kind in reference.all_kinds():
            steps = kind.steps()
            if steps:
                self.assertEqual(row_machine(kind, kind.start()), ([[1] * steps, [1] * steps], 0))
                self.assertEqual(state_orders(kind, kind.start()), [kind.start(), None])
        self.assertEqual(row_machine(Kind("plain", 1), [0]), ([[]], 0))
        self.assertEqual(state_orders(Kind("plain", 1), [0]), [[0]])
        self.assertEqual(row_machine(Kind("mirror", 1), [-1]), ([[1], [1]], 1))
        self.assertEqual(state_orders(Kind("mirror", 1), [-1]), [[1], [-1]])
        for kind, many in ((Kind("plain", 5), 120), (Kind("plain", 6), 720), (Kind("mirror", 4), 384)):
            lines, last = row_machine(kind, greatest(kind))
            self.assertEqual((len(lines), last), (many, many - 1))
            self.assertNotIn(None, state_orders(kind, greatest(kind)))

    def test_a_thousand_states_and_more(self):
        kind, order = Kind("ring", 4), [-9, 29, 8, -22]
        lines, last = row_machine(kind, order)
        told = state_orders(kind, order)
        self.assertEqual([len(lines), len(told), how_many_beginnings(kind, order)], [1000, 1000, 999])
        self.assertEqual((told[last], classes(lines, last)), (order, 1000))
        # With 1,000 orders that begin it, one state more is needed for all other rows.
        for kind, order in ((Kind("ring", 5), [-2, -18, -6, 20, 16]), (Kind("ring", 4), [29, 7, -24, -6]),
                            (Kind("plain", 7), [6, 5, 4, 3, 2, 1, 0]), (Kind("mirror", 5), [-1, -2, -3, -4, -5])):
            for function in (row_machine, state_orders):
                with self.assertRaises(TooMany) as caught:
                    function(kind, order)
                self.assertEqual(caught.exception.value, 1001)

    def test_sixty_crossings(self):
        kind = Kind("ring", 2)
        lines, last = row_machine(kind, ring_with(2, 60))
        self.assertEqual((len(lines), len(state_orders(kind, ring_with(2, 60)))), (62, 62))

    def test_wrong_arguments(self):
        for kind, order, _ in GOOD:
            further = [("order", wrong) for wrong in wrong_orders(kind)]
            for function in (row_machine, state_orders):
                self.assert_refusals(function, kind, [("kind", kind, *KIND), ("order", order, *ORDER)], further)


if __name__ == "__main__":
    unittest.main()
