"""Pairs of numbers of the long row, and whether an order crosses them."""

from seamlayers.checks import check_orders
from seamlayers.errors import InvalidNumber
from seamlayers.longwork import are_crossed, is_number
from seamlayers.orderwork import opposite_of


def pair_crossed(kind, order, low, high):
    """Tell whether the greater one of two numbers stands ahead of the lesser one in the long row."""
    check_orders(kind, order)
    if not is_number(kind, low):
        raise InvalidNumber(low)
    if not (is_number(kind, high) and high > low):
        raise InvalidNumber(high)
    return are_crossed(kind, opposite_of(kind, order), low, high)
