"""Orders of a kind: their crossings, steps, products and opposites."""

from seamlayers.blockwork import greatest_made
from seamlayers.checks import check_count, check_orders
from seamlayers.errors import TooMany
from seamlayers.kinds import check_kind, check_step
from seamlayers.ordercounts import many_with
from seamlayers.orderlists import listed_with
from seamlayers.orderwork import after_step, after_step_ahead, count_crossings, falls_of, heads_of
from seamlayers.orderwork import is_told_order, opposite_of, product_of

MOST_LISTED = 1000


def is_order(kind, value):
    """Tell whether a value is an order of a kind, with at most 60 crossings."""
    check_kind(kind)
    return is_told_order(kind, value)


def crossings(kind, order):
    """Return the least number of steps by which an order comes from the start."""
    check_orders(kind, order)
    return count_crossings(kind, order)


def falls(kind, order):
    """Return the steps at which an order is crossed."""
    check_orders(kind, order)
    return falls_of(kind, order)


def heads(kind, order):
    """Return the falls of the opposite of an order."""
    check_orders(kind, order)
    return heads_of(kind, order)


def stepped(kind, order, step):
    """Return the order that comes from an order by a step."""
    check_orders(kind, order)
    check_step(kind, step)
    return after_step(kind, order, step)


def stepped_ahead(kind, order, step):
    """Return the product of the order that a step makes of the start, and of an order."""
    check_orders(kind, order)
    check_step(kind, step)
    return after_step_ahead(kind, order, step)


def opposite(kind, order):
    """Return the order whose product with an order is the start."""
    check_orders(kind, order)
    return opposite_of(kind, order)


def product(kind, one, other):
    """Return the order that comes from one order by the steps that lead to the other."""
    check_orders(kind, one, other)
    return product_of(kind, one, other)


def how_many_orders(kind, crossings):
    """Return how many orders of a kind have just so many crossings."""
    check_kind(kind)
    check_count(crossings)
    return many_with(kind, crossings)


def orders_with(kind, crossings):
    """Return the orders of a kind that have just so many crossings, in order."""
    check_kind(kind)
    check_count(crossings)
    # Of the other kinds none has more than 573 orders with as many crossings: they need not be counted.
    if kind.name() == "ring":
        many = many_with(kind, crossings)
        if many > MOST_LISTED:
            raise TooMany(many)
    return listed_with(kind, crossings)


def greatest(kind):
    """Return the only order of a kind with the most crossings, or None."""
    check_kind(kind)
    return greatest_made(kind, list(range(kind.steps())))
