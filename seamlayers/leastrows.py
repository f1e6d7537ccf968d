"""All least rows that make an order: how many there are, and which is the next one.

They are counted over the orders that are come to by taking heads off. Of these
the opposites are kept: to take a head off is then to do a fall.
"""

from seamlayers.beginwork import levels_down
from seamlayers.checks import check_count, check_least, check_orders
from seamlayers.errors import InvalidNumber
from seamlayers.orderwork import after_step, falls_of, opposite_of
from seamlayers.rowwork import first_down, first_least, made_by

MOST_COUNTED = 1000


def least_row(kind, order):
    """Return the first of the least rows that make an order."""
    check_orders(kind, order)
    return first_least(kind, order)


def how_many_least(kind, order):
    """Return how many least rows make an order."""
    check_orders(kind, order)
    flipped = opposite_of(kind, order)
    return _counts_down(kind, flipped)[tuple(flipped)]


def least_number(kind, row):
    """Return how many least rows that make the same order are ahead of a least row."""
    check_least(kind, row)
    flipped = opposite_of(kind, made_by(kind, row))
    counts = _counts_down(kind, flipped)
    number = 0
    for step in row:
        for fall in falls_of(kind, flipped):
            if fall < step:
                number += counts[tuple(after_step(kind, flipped, fall))]
        flipped = after_step(kind, flipped, step)
    return number


def least_numbered(kind, order, number):
    """Return the least row that makes an order, ahead of which just so many are."""
    check_orders(kind, order)
    check_count(number)
    flipped = opposite_of(kind, order)
    counts = _counts_down(kind, flipped)
    if number >= counts[tuple(flipped)]:
        raise InvalidNumber(number)
    row = []
    while falls_of(kind, flipped):
        for fall in falls_of(kind, flipped):
            further = after_step(kind, flipped, fall)
            many = counts[tuple(further)]
            if number < many:
                break
            number -= many
        row.append(fall)
        flipped = further
    return row


def next_least(kind, row):
    """Return the first least row behind a least row that makes the same order, or None."""
    check_least(kind, row)
    flipped = kind.start()
    # The longest beginning that can stay is sought, so from the end of the row on.
    for at in range(len(row) - 1, -1, -1):
        flipped = after_step(kind, flipped, row[at])
        greater = [fall for fall in falls_of(kind, flipped) if fall > row[at]]
        if greater:
            return row[:at] + [greater[0]] + first_down(kind, after_step(kind, flipped, greater[0]))
    return None


def _counts_down(kind, flipped):
    """Return for each order come to by falls in how many ways falls lead from it to the start."""
    counts = {tuple(kind.start()): 1}
    for level in reversed(levels_down(kind, flipped, MOST_COUNTED)):
        for order in level:
            if order not in counts:
                counts[order] = sum([counts[tuple(after_step(kind, order, fall))] for fall in falls_of(kind, order)])
    return counts
