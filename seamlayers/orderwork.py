"""Steps, products and crossings of orders, without checks.

All functions take a kind and orders of it, with however many crossings, and
return new lists.
"""

from seamlayers.values import are_whole

MOST_CROSSINGS = 60


def exchanged(kind, order, step):
    """Return the two items that a step exchanges, as they stand."""
    if kind.name() == "plain":
        return order[step], order[step + 1]
    if kind.name() == "ring":
        if step + 1 == kind.size():
            return order[step], order[0] + kind.size()
        return order[step], order[step + 1]
    # Ahead of the first item of a mirror order stands the same with the other sign.
    if step == 0:
        return -order[0], order[0]
    return order[step - 1], order[step]


def is_crossed(kind, order, step):
    """Tell whether an order is crossed at a step."""
    first, second = exchanged(kind, order, step)
    return first > second


def after_step(kind, order, step):
    """Return the order that comes from an order by a step."""
    moved = list(order)
    first, second = exchanged(kind, order, step)
    if kind.name() == "plain":
        moved[step], moved[step + 1] = second, first
    elif kind.name() == "ring" and step + 1 == kind.size():
        moved[step], moved[0] = second, first - kind.size()
    elif kind.name() == "ring":
        moved[step], moved[step + 1] = second, first
    elif step == 0:
        moved[0] = first
    else:
        moved[step - 1], moved[step] = second, first
    return moved


def after_step_ahead(kind, order, step):
    """Return the product of the order that a step makes of the start, and of an order."""
    return product_of(kind, after_step(kind, kind.start(), step), order)


def falls_of(kind, order):
    """Return the steps at which an order is crossed."""
    return [step for step in range(kind.steps()) if is_crossed(kind, order, step)]


def heads_of(kind, order):
    """Return the falls of the opposite of an order."""
    return falls_of(kind, opposite_of(kind, order))


def item_at(kind, order, place):
    """Return the item that the product with an order puts in for a number."""
    if kind.name() == "mirror":
        return order[place - 1] if place > 0 else -order[-place - 1]
    # The numbers of a plain order are all below its size, so a rest by it changes none.
    inside = place % kind.size()
    return order[inside] + place - inside


def product_of(kind, one, other):
    """Return the product of two orders."""
    return [item_at(kind, one, place) for place in other]


def opposite_of(kind, order):
    """Return the order whose product with an order is the start."""
    turned = kind.start()
    if kind.name() == "mirror":
        for at, item in enumerate(order):
            turned[abs(item) - 1] = at + 1 if item > 0 else -at - 1
        return turned
    for at, item in enumerate(order):
        inside = item % kind.size()
        turned[inside] = at - item + inside
    return turned


def count_crossings(kind, order):
    """Return the least number of steps by which an order comes from the start."""
    pairs = [(order[at], item) for behind, item in enumerate(order) for at in range(behind)]
    if kind.name() == "ring":
        return sum([abs((second - first) // kind.size()) for first, second in pairs])
    many = len([first for first, second in pairs if first > second])
    if kind.name() == "mirror":
        many += len([item for item in order if item < 0])
        many += len([first for first, second in pairs if first + second < 0])
    return many


def has_order_form(kind, value):
    """Tell whether a value is an order of a kind, with however many crossings."""
    size = kind.size()
    if not (isinstance(value, list) and len(value) == size and are_whole(value)):
        return False
    if kind.name() == "plain":
        return sorted(value) == kind.start()
    if kind.name() == "mirror":
        return sorted([abs(item) for item in value]) == kind.start()
    return sum(value) == size * (size - 1) // 2 and sorted([item % size for item in value]) == kind.start()


def is_told_order(kind, value):
    """Tell whether a value is an order that may be handed in."""
    return has_order_form(kind, value) and count_crossings(kind, value) <= MOST_CROSSINGS
