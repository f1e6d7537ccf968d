"""The least orders that are lacking for a greedy product to come to a told order."""

from seamlayers.checks import check_orders
from seamlayers.orderwork import after_step, is_crossed, opposite_of
from seamlayers.rowwork import first_least


def lacking(kind, order, goal):
    """Return the least order whose greedy product behind an order has a goal beneath it."""
    check_orders(kind, order, goal)
    return _lacking_behind(kind, order, goal)


def lacking_ahead(kind, order, goal):
    """Return the least order whose greedy product ahead of an order has a goal beneath it."""
    check_orders(kind, order, goal)
    return _lacking_before(kind, order, goal)


def lacking_between(kind, ahead, behind, goal):
    """Return the least order whose greedy product between two orders has a goal beneath it."""
    check_orders(kind, ahead, behind, goal)
    return _lacking_before(kind, behind, _lacking_behind(kind, ahead, goal))


def _lacking_behind(kind, order, goal):
    """Return what `lacking` tells, unchecked."""
    flipped = opposite_of(kind, goal)
    for step in first_least(kind, order):
        # A head of what has come is a fall of its opposite.
        if is_crossed(kind, flipped, step):
            flipped = after_step(kind, flipped, step)
    return opposite_of(kind, flipped)


def _lacking_before(kind, order, goal):
    """Return what `lacking_ahead` tells, unchecked: all seen from behind."""
    return opposite_of(kind, _lacking_behind(kind, opposite_of(kind, order), opposite_of(kind, goal)))
