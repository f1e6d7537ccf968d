"""The least machine that tells which rows come from the start to an order."""

from seamlayers.checks import check_orders
from seamlayers.errors import TooMany
from seamlayers.machinework import lines_between

MOST_STATES = 1000


def row_machine(kind, order):
    """Return the lines of the machine with the fewest states, and the state to which the rows of an order lead."""
    check_orders(kind, order)
    orders, lines, lost = _states(kind, order)
    last = len(orders) - 1
    if lost is None:
        return lines, last
    told = [[_with_lost(number, lost) for number in line] for line in lines]
    return told[:lost] + [[lost] * kind.steps()] + told[lost:], _with_lost(last, lost)


def state_orders(kind, order):
    """Return the orders to which the rows come that lead to the states, None for what doesn't lead to an order."""
    check_orders(kind, order)
    orders, _, lost = _states(kind, order)
    return orders if lost is None else orders[:lost] + [None] + orders[lost:]


def _states(kind, order):
    """Return the orders that begin an order, what steps make of them, and the number of the state without an order."""
    orders, lines = lines_between(kind, kind.start(), order, MOST_STATES)
    # If all steps lead on from the start, the order is the greatest one. Else those ahead lead to one order each.
    if -1 not in lines[0]:
        return orders, lines, None
    if len(orders) == MOST_STATES:
        raise TooMany(MOST_STATES + 1)
    return orders, lines, lines[0].index(-1) + 1


def _with_lost(number, lost):
    """Return the number of a state among all, the one without an order too, that stands at its number or as -1."""
    if number == -1:
        return lost
    return number if number < lost else number + 1
