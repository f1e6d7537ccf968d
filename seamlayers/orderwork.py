"""Steps, products and crossings of orders, without checks.

All functions take a kind and orders of it, with however many crossings, and
return new lists. A row of steps is done on a spread: a list in which each step
exchanges the item with its number and the next one. For plain orders this is the
order; a mirror order has its first item with the other sign ahead, a ring order the
item behind its last one behind.
"""

from itertools import combinations

from seamlayers.values import are_whole

MOST_CROSSINGS = 60


def spread_of(kind, order):
    """Return the spread of an order."""
    name = kind.name()
    if name == "mirror":
        return [-order[0], *order]
    if name == "ring":
        return [*order, order[0] + len(order)]
    return list(order)


def order_in(kind, spread):
    """Return the order of a spread."""
    name = kind.name()
    if name == "mirror":
        return spread[1:]
    return spread[:-1] if name == "ring" else list(spread)


def exchange_in(name, spread, step):
    """Do a step on the spread of an order of a kind with a name."""
    spread[step], spread[step + 1] = spread[step + 1], spread[step]
    # One item of a mirror or a ring stands in its spread twice.
    if name == "mirror":
        if step == 1:
            spread[0] = -spread[1]
    elif name == "ring":
        size = len(spread) - 1
        if step == 0:
            spread[size] = spread[0] + size
        elif step == size - 1:
            spread[0] = spread[size] - size


def is_crossed(kind, order, step):
    """Tell whether an order is crossed at a step."""
    if kind.name() == "mirror":
        return order[step - 1] > order[step] if step > 0 else order[0] < 0
    if step + 1 == len(order):
        return order[step] > order[0] + len(order)
    return order[step] > order[step + 1]


def after_step(kind, order, step):
    """Return the order that comes from an order by a step."""
    moved = list(order)
    if kind.name() == "mirror":
        if step == 0:
            moved[0] = -moved[0]
        else:
            moved[step - 1], moved[step] = moved[step], moved[step - 1]
    elif step + 1 == len(moved):
        moved[step], moved[0] = moved[0] + len(moved), moved[step] - len(moved)
    else:
        moved[step], moved[step + 1] = moved[step + 1], moved[step]
    return moved


def after_step_ahead(kind, order, step):
    """Return the product of the order that a step makes of the start, and of an order."""
    return product_of(kind, after_step(kind, kind.start(), step), order)


def falls_of(kind, order):
    """Return the steps at which an order is crossed."""
    spread = spread_of(kind, order)
    return [step for step in range(len(spread) - 1) if spread[step] > spread[step + 1]]


def heads_of(kind, order):
    """Return the falls of the opposite of an order."""
    return falls_of(kind, opposite_of(kind, order))


def item_at(kind, order, place):
    """Return the item that the product with an order puts in for a number."""
    if kind.name() == "mirror":
        return order[place - 1] if place > 0 else -order[-place - 1]
    # The numbers of a plain order are all below its size, so a rest by it changes none.
    inside = place % kind.size()
    return order[inside] + place - inside


def product_of(kind, one, other):
    """Return the product of two orders."""
    name = kind.name()
    if name == "plain":
        return [one[place] for place in other]
    if name == "mirror":
        return [one[place - 1] if place > 0 else -one[-place - 1] for place in other]
    size = len(one)
    return [one[place % size] + place - place % size for place in other]


def opposite_of(kind, order):
    """Return the order whose product with an order is the start."""
    name = kind.name()
    size = len(order)
    turned = [0] * size
    if name == "plain":
        for at, item in enumerate(order):
            turned[item] = at
    elif name == "mirror":
        for at, item in enumerate(order):
            turned[abs(item) - 1] = at + 1 if item > 0 else -at - 1
    else:
        for at, item in enumerate(order):
            inside = item % size
            turned[inside] = at - item + inside
    return turned


def count_crossings(kind, order):
    """Return the least number of steps by which an order comes from the start."""
    name = kind.name()
    if name == "ring":
        size = len(order)
        return sum([abs((second - first) // size) for first, second in combinations(order, 2)])
    many = len([first for first, second in combinations(order, 2) if first > second])
    if name == "mirror":
        many += len([item for item in order if item < 0])
        many += len([first for first, second in combinations(order, 2) if first + second < 0])
    return many


def has_order_form(kind, value):
    """Tell whether a value is an order of a kind, with however many crossings."""
    size = kind.size()
    if not (isinstance(value, list) and len(value) == size and are_whole(value)):
        return False
    name = kind.name()
    if name == "plain":
        return sorted(value) == kind.start()
    if name == "mirror":
        return sorted([abs(item) for item in value]) == kind.start()
    return sum(value) == size * (size - 1) // 2 and sorted([item % size for item in value]) == kind.start()


def is_told_order(kind, value):
    """Tell whether a value is an order that may be handed in."""
    if not has_order_form(kind, value):
        return False
    # No plain or mirror order has more than 25 crossings.
    return kind.name() != "ring" or count_crossings(kind, value) <= MOST_CROSSINGS
