"""Steps up and down between orders beneath one another, and all orders beneath one."""

from seamlayers.beneathwork import all_beneath, counts_between, lies_beneath, next_over, next_under, places_of
from seamlayers.checks import check_block, check_orders
from seamlayers.errors import InvalidNumber
from seamlayers.greedywork import after_row
from seamlayers.orderwork import count_crossings, has_order_form, is_told_order, product_of
from seamlayers.rowwork import first_least, made_by
from seamlayers.values import is_count


def next_below(kind, order):
    """Return the orders beneath an order that have one crossing less, in order."""
    check_orders(kind, order)
    return next_under(kind, order)


def next_above(kind, order):
    """Return the orders that an order is beneath and that have one crossing more, in order."""
    check_orders(kind, order)
    return next_over(kind, order)


def climb(kind, one, other):
    """Return orders, each next above the one ahead of it, from an order to another one, or None."""
    check_orders(kind, one, other)
    if not lies_beneath(kind, one, other):
        return None
    down = [list(other)]
    while down[-1] != one:
        down.append(_one_down(kind, one, down[-1]))
    return down[::-1]


def is_climb(kind, one, other, value):
    """Tell whether a value is a list of orders as `climb` returns them."""
    check_orders(kind, one, other)
    if not (isinstance(value, list) and all([is_told_order(kind, order) for order in value])):
        return False
    if not (value and value[0] == one and value[-1] == other):
        return False
    return all([_is_next(kind, value[at], value[at + 1]) for at in range(len(value) - 1)])


def how_many_beneath(kind, order):
    """Return how many orders beneath an order have 0, 1, 2, .. crossings."""
    check_orders(kind, order)
    counts = [0] * (count_crossings(kind, order) + 1)
    for many in all_beneath(kind, order).values():
        counts[many] += 1
    return counts


def beneath_numbered(kind, order, number):
    """Return the order beneath an order ahead of which just so many of them are, in order."""
    check_orders(kind, order)
    if not is_count(number):
        raise InvalidNumber(number)
    found = sorted(all_beneath(kind, order))
    if number >= len(found):
        raise InvalidNumber(number)
    return list(found[number])


def beneath_number(kind, order, value):
    """Return how many orders beneath an order are ahead of a value, None if it is none of them."""
    check_orders(kind, order)
    if not (has_order_form(kind, value) and lies_beneath(kind, value, order)):
        return None
    return sorted(all_beneath(kind, order)).index(tuple(value))


def how_many_between(kind, one, other):
    """Return how many orders between two orders have as many crossings as the first, one more, .."""
    check_orders(kind, one, other)
    if one == other:
        return [1]
    if not lies_beneath(kind, one, other):
        return []
    return counts_between(kind, one, other)[count_crossings(kind, one):]


def held_in(kind, order, block):
    """Return the greatest order beneath an order that steps of a block make."""
    check_orders(kind, order)
    check_block(kind, block)
    return after_row(kind, kind.start(), [step for step in first_least(kind, order) if step in block])


def factors(kind, order, one, other):
    """Return two orders, beneath two told ones, whose product is an order, or None."""
    check_orders(kind, order, one, other)
    first, second = first_least(kind, one), first_least(kind, other)
    both = first + second
    places = places_of(kind, order, both)
    if places is None:
        return None
    low = made_by(kind, [both[at] for at in places if at < len(first)])
    high = made_by(kind, [both[at] for at in places if at >= len(first)])
    return low, high


def are_factors(kind, order, one, other, value):
    """Tell whether a value is a tuple of two orders as `factors` returns them."""
    check_orders(kind, order, one, other)
    if not (isinstance(value, tuple) and len(value) == 2):
        return False
    low, high = value
    if not (is_told_order(kind, low) and is_told_order(kind, high)):
        return False
    if not (lies_beneath(kind, low, one) and lies_beneath(kind, high, other)):
        return False
    return product_of(kind, low, high) == order


def _one_down(kind, one, other):
    """Return an order next below another one that a third one is beneath."""
    for order in next_under(kind, other):
        if lies_beneath(kind, one, order):
            return order
    return one


def _is_next(kind, one, other):
    """Tell whether an order is next above another one."""
    return count_crossings(kind, other) == count_crossings(kind, one) + 1 and lies_beneath(kind, one, other)
