"""What rows of steps make and cross, without checks.

Least rows are read off flipped orders, that is, off opposites: to take a head
off an order is to do a fall of its opposite, and this is the cheaper one.
"""

from seamlayers.kinds import is_step
from seamlayers.orderwork import count_crossings, exchange_in, opposite_of, order_in, spread_of
from seamlayers.values import are_whole, is_rising

MOST_STEPS = 100


def is_told_row(kind, value):
    """Tell whether a value is a row of a kind."""
    if not (isinstance(value, list) and len(value) <= MOST_STEPS):
        return False
    return all([is_step(kind, step) for step in value])


def are_places(row, value):
    """Tell whether a value is a rising list of places of a row."""
    if not (isinstance(value, list) and are_whole(value) and is_rising(value)):
        return False
    return not value or (value[0] >= 0 and value[-1] < len(row))


def made_by(kind, row):
    """Return the order that a row makes."""
    name, spread = kind.name(), spread_of(kind, kind.start())
    for step in row:
        exchange_in(name, spread, step)
    return order_in(kind, spread)


def makes_no_detour(kind, row):
    """Tell whether a row is least."""
    return count_crossings(kind, made_by(kind, row)) == len(row)


def pair_told(kind, first, second):
    """Return the pair that a step crosses which exchanges two items, as it is told."""
    low, high = (first, second) if first < second else (second, first)
    if kind.name() == "ring":
        below = low - low % kind.size()
        return low - below, high - below
    # A mirror step crosses the pair with the other signs, too: one of both is told.
    if kind.name() == "mirror" and low + high < 0:
        return -high, -low
    return low, high


def crossed_by(kind, row):
    """Return the list of the pairs that the steps of a row cross."""
    name, spread = kind.name(), spread_of(kind, kind.start())
    told = []
    for step in row:
        told.append(pair_told(kind, spread[step], spread[step + 1]))
        exchange_in(name, spread, step)
    return told


def first_down(kind, flipped):
    """Return the first of the least rows that make the opposite of an order."""
    name, spread = kind.name(), spread_of(kind, flipped)
    row = []
    step, end = 0, len(spread) - 1
    while step < end:
        if spread[step] > spread[step + 1]:
            row.append(step)
            exchange_in(name, spread, step)
            step = least_changed(name, step, end)
        else:
            step += 1
    return row


def least_changed(name, step, steps):
    """Return the least step at which an order of a kind with so many steps may be crossed once it is behind a step.

    Before it must be crossed at no lesser one.
    """
    # The last step of a ring is a neighbour of the step 0.
    if step == 0 or (name == "ring" and step == steps - 1):
        return 0
    return step - 1


def first_least(kind, order):
    """Return the first of the least rows that make an order."""
    return first_down(kind, opposite_of(kind, order))


def least_places(kind, row):
    """Return places of a row whose steps are a least row that makes the same order."""
    name, spread = kind.name(), spread_of(kind, kind.start())
    places = []
    for at, step in enumerate(row):
        if spread[step] > spread[step + 1]:
            # The new step undoes the one step kept that crosses the same: both are left out.
            told = crossed_by(kind, [row[place] for place in places] + [step])
            del places[told.index(told[-1])]
        else:
            places.append(at)
        exchange_in(name, spread, step)
    return places
