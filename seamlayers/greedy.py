"""Greedy products of orders and rows: what is lost and kept, and where powers settle."""

from seamlayers.blockwork import block_of, greatest_made, is_endless, many_made
from seamlayers.checks import check_orders, check_rows
from seamlayers.errors import InvalidList, InvalidNumber
from seamlayers.greedywork import after_gain, after_gain_ahead, after_row, greedy_of, kept_of
from seamlayers.kinds import check_kind, check_step
from seamlayers.orderwork import count_crossings, falls_of, is_told_order, opposite_of, product_of
from seamlayers.values import is_count

MOST_ORDERS = 20
MOST_TIMES = 1000


def gained(kind, order, step):
    """Return what an order becomes by gaining a step."""
    check_orders(kind, order)
    check_step(kind, step)
    return after_gain(kind, order, step)


def gained_ahead(kind, order, step):
    """Return the opposite of what the opposite of an order becomes by gaining a step."""
    check_orders(kind, order)
    check_step(kind, step)
    return after_gain_ahead(kind, order, step)


def greedy(kind, one, other):
    """Return the greedy product of two orders."""
    check_orders(kind, one, other)
    return greedy_of(kind, one, other)


def greedy_all(kind, orders):
    """Return the greedy product of the orders of a list, one behind the other."""
    check_kind(kind)
    if not (isinstance(orders, list) and len(orders) <= MOST_ORDERS):
        raise InvalidList(orders)
    if not all([is_told_order(kind, order) for order in orders]):
        raise InvalidList(orders)
    whole = kind.start()
    for order in orders:
        whole = greedy_of(kind, whole, order)
    return whole


def lost(kind, one, other):
    """Return how many crossings two orders have together more than their greedy product."""
    check_orders(kind, one, other)
    together = count_crossings(kind, one) + count_crossings(kind, other)
    return together - count_crossings(kind, greedy_of(kind, one, other))


def halves(kind, one, other):
    """Return what stands in the place of one order, and of the other, in their greedy product."""
    check_orders(kind, one, other)
    whole = greedy_of(kind, one, other)
    part = product_of(kind, whole, opposite_of(kind, other))
    rest = product_of(kind, opposite_of(kind, one), whole)
    return part, rest


def leaves_alone(kind, one, other):
    """Tell whether the greedy product of two orders is the first one."""
    check_orders(kind, one, other)
    return greedy_of(kind, one, other) == one


def how_many_leave(kind, order):
    """Return for how many orders, as the second one, the greedy product is the order."""
    check_orders(kind, order)
    return many_made(kind, falls_of(kind, order))


def power(kind, order, count):
    """Return the greedy product of so many times an order, the start for 0."""
    check_orders(kind, order)
    if not (is_count(count) and count <= MOST_TIMES):
        raise InvalidNumber(count)
    here = kind.start()
    for _ in range(count):
        ahead = here
        here = greedy_of(kind, ahead, order)
        if here == ahead:
            return here
    return here


def settles(kind, order):
    """Return the least count of at least 1 whose power is the same as the next one, or None."""
    check_orders(kind, order)
    if is_endless(kind, block_of(kind, order)):
        return None
    count = 1
    here = order
    further = greedy_of(kind, here, order)
    while further != here:
        count += 1
        here = further
        further = greedy_of(kind, here, order)
    return count


def settled_orders(kind):
    """Return the orders whose greedy product with themselves is the order itself, in order."""
    check_kind(kind)
    blocks = [[]]
    for step in range(kind.steps()):
        blocks = blocks + [block + [step] for block in blocks]
    return sorted([greatest_made(kind, block) for block in blocks if not is_endless(kind, block)])


def greedy_row(kind, row):
    """Return the order that the start becomes by gaining the steps of a row."""
    check_rows(kind, row)
    return after_row(kind, kind.start(), row)


def kept(kind, row):
    """Return the places of the steps by which the start changes as it gains them."""
    check_rows(kind, row)
    return kept_of(kind, row)


def kept_behind(kind, row):
    """Return the places of the steps by which the start changes as it gains them ahead, the last first."""
    check_rows(kind, row)
    # To gain a step ahead is to gain it on the side of opposites: so the row is read backwards.
    last = len(row) - 1
    return [last - at for at in reversed(kept_of(kind, row[::-1]))]
