"""What begins and ends orders, without checks.

To begin is seen from behind: what ends an order begins, turned over, its opposite.
"""

from seamlayers.blockwork import greatest_made
from seamlayers.bulkwork import fallen
from seamlayers.errors import TooMany
from seamlayers.orderwork import after_step, count_crossings, falls_of, is_crossed, opposite_of, product_of
from seamlayers.roundwork import least_ring_on

MOST_BEGINNINGS = 1000


def rest_of(kind, one, other):
    """Return the rest behind an order that begins another one, or None."""
    behind = product_of(kind, opposite_of(kind, one), other)
    together = count_crossings(kind, one) + count_crossings(kind, behind)
    return behind if together == count_crossings(kind, other) else None


def rest_ahead_of(kind, one, other):
    """Return the order that begins another one and has an order as its rest, or None."""
    front = product_of(kind, other, opposite_of(kind, one))
    together = count_crossings(kind, front) + count_crossings(kind, one)
    return front if together == count_crossings(kind, other) else None


def greatest_begun(kind, one, other):
    """Return the greatest of the orders that begin two orders."""
    first, second = opposite_of(kind, one), opposite_of(kind, other)
    steps = falls_of(kind, first)
    both = [step for step in steps if is_crossed(kind, second, step)]
    # A head of both is one of their greatest beginning, too: so each can be taken off of all three.
    while both:
        first, second = after_step(kind, first, both[0]), after_step(kind, second, both[0])
        both = [step for step in falls_of(kind, first) if is_crossed(kind, second, step)]
    return product_of(kind, one, first)


def least_on(kind, one, other):
    """Return the least of the orders that two orders begin, or None."""
    if kind.name() == "ring":
        return least_ring_on(kind, one, other)
    # Behind the greatest order, all that begins is turned about: it crosses just what was not crossed.
    top = greatest_made(kind, list(range(kind.steps())))
    below = greatest_begun(kind, product_of(kind, one, top), product_of(kind, other, top))
    return product_of(kind, below, top)


def levels_down(kind, order, most):
    """Return lists of the orders that begin an order, as tuples, those with more crossings first.

    There may be however many if `most` is None.
    """
    levels = [[tuple(order)]]
    many = 1
    while levels[-1]:
        found = {}
        for step in range(kind.steps()):
            for there in fallen(kind, levels[-1], step):
                found[there] = True
        many += len(found)
        if most is not None and many > most:
            raise TooMany(most + 1)
        levels.append(list(found))
    return levels
