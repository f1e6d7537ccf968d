"""Orders that begin and end others: rests, what two have in common, and what both go on to."""

from seamlayers.beginwork import MOST_BEGINNINGS, greatest_begun, least_on, levels_down, rest_ahead_of, rest_of
from seamlayers.checks import check_orders
from seamlayers.longwork import are_crossed, is_number
from seamlayers.orderwork import opposite_of
from seamlayers.roundwork import any_round, tells_round
from seamlayers.rowwork import crossed_by, first_least
from seamlayers.values import are_whole, is_rising


def begins(kind, one, other):
    """Tell whether an order begins another one."""
    check_orders(kind, one, other)
    return rest_of(kind, one, other) is not None


def ends(kind, one, other):
    """Tell whether an order ends another one."""
    check_orders(kind, one, other)
    return rest_ahead_of(kind, one, other) is not None


def rest(kind, one, other):
    """Return the rest behind an order that begins another one, or None."""
    check_orders(kind, one, other)
    return rest_of(kind, one, other)


def rest_ahead(kind, one, other):
    """Return the order that begins another one and has an order as its rest, or None."""
    check_orders(kind, one, other)
    return rest_ahead_of(kind, one, other)


def apart(kind, one, other):
    """Return two numbers that are crossed by an order and not by another one, or None."""
    check_orders(kind, one, other)
    flipped = opposite_of(kind, other)
    for low, high in crossed_by(kind, first_least(kind, one)):
        if not are_crossed(kind, flipped, low, high):
            return low, high
    return None


def is_apart(kind, one, other, value):
    """Tell whether a value is a tuple of two numbers as `apart` returns them."""
    check_orders(kind, one, other)
    if not (isinstance(value, tuple) and len(value) == 2):
        return False
    low, high = value
    if not (is_number(kind, low) and is_number(kind, high) and low < high):
        return False
    if not are_crossed(kind, opposite_of(kind, one), low, high):
        return False
    return not are_crossed(kind, opposite_of(kind, other), low, high)


def greatest_beginning(kind, one, other):
    """Return the greatest of the orders that begin two orders."""
    check_orders(kind, one, other)
    return greatest_begun(kind, one, other)


def greatest_ending(kind, one, other):
    """Return the greatest of the orders that end two orders."""
    check_orders(kind, one, other)
    return opposite_of(kind, greatest_begun(kind, opposite_of(kind, one), opposite_of(kind, other)))


def beginnings(kind, order):
    """Return the orders that begin an order, in order."""
    check_orders(kind, order)
    levels = levels_down(kind, order, MOST_BEGINNINGS)
    return sorted([list(here) for level in levels for here in level])


def how_many_beginnings(kind, order):
    """Return how many orders begin an order."""
    check_orders(kind, order)
    return sum([len(level) for level in levels_down(kind, order, None)])


def least_going_on(kind, one, other):
    """Return the least of the orders that two orders begin, or None."""
    check_orders(kind, one, other)
    return least_on(kind, one, other)


def least_ended(kind, one, other):
    """Return the least of the orders that two orders end, or None."""
    check_orders(kind, one, other)
    flipped = least_on(kind, opposite_of(kind, one), opposite_of(kind, other))
    return None if flipped is None else opposite_of(kind, flipped)


def round_of(kind, one, other):
    """Return a round of two orders, None if they have none."""
    check_orders(kind, one, other)
    return any_round(kind, one, other) if kind.name() == "ring" else None


def is_round(kind, one, other, value):
    """Tell whether a value is a round of two orders."""
    check_orders(kind, one, other)
    if kind.name() != "ring":
        return False
    if not (isinstance(value, list) and are_whole(value) and is_rising(value)):
        return False
    return tells_round(kind, one, other, value)
