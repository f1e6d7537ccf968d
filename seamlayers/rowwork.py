"""What rows of steps make and cross, without checks.

Least rows are read off flipped orders, that is, off opposites: to take a head
off an order is to do a fall of its opposite, and this is the cheaper one.
"""

from seamlayers.kinds import is_step
from seamlayers.orderwork import after_step, count_crossings, exchanged, falls_of, is_crossed, opposite_of
from seamlayers.values import are_whole, is_rising

MOST_STEPS = 100


def is_told_row(kind, value):
    """Tell whether a value is a row of a kind."""
    if not (isinstance(value, list) and len(value) <= MOST_STEPS):
        return False
    return all([is_step(kind, step) for step in value])


def are_places(row, value):
    """Tell whether a value is a rising list of places of a row."""
    if not (isinstance(value, list) and are_whole(value) and is_rising(value)):
        return False
    return not value or (value[0] >= 0 and value[-1] < len(row))


def made_by(kind, row):
    """Return the order that a row makes."""
    order = kind.start()
    for step in row:
        order = after_step(kind, order, step)
    return order


def makes_no_detour(kind, row):
    """Tell whether a row is least."""
    return count_crossings(kind, made_by(kind, row)) == len(row)


def pair_told(kind, order, step):
    """Return the pair that a step crosses, as it is told."""
    first, second = exchanged(kind, order, step)
    low, high = min(first, second), max(first, second)
    if kind.name() == "ring":
        below = low - low % kind.size()
        return low - below, high - below
    # A mirror step crosses the pair with the other signs, too: one of both is told.
    if kind.name() == "mirror" and low + high < 0:
        return -high, -low
    return low, high


def crossed_by(kind, row):
    """Return the list of the pairs that the steps of a row cross."""
    told = []
    order = kind.start()
    for step in row:
        told.append(pair_told(kind, order, step))
        order = after_step(kind, order, step)
    return told


def first_down(kind, flipped):
    """Return the first of the least rows that make the opposite of an order."""
    row = []
    falls = falls_of(kind, flipped)
    while falls:
        row.append(falls[0])
        flipped = after_step(kind, flipped, falls[0])
        falls = falls_of(kind, flipped)
    return row


def first_least(kind, order):
    """Return the first of the least rows that make an order."""
    return first_down(kind, opposite_of(kind, order))


def least_places(kind, row):
    """Return places of a row whose steps are a least row that makes the same order."""
    places = []
    order = kind.start()
    for at, step in enumerate(row):
        if is_crossed(kind, order, step):
            # The new step undoes the one step kept that crosses the same: both are left out.
            told = crossed_by(kind, [row[place] for place in places] + [step])
            del places[told.index(told[-1])]
        else:
            places.append(at)
        order = after_step(kind, order, step)
    return places
