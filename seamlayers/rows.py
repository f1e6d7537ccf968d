"""Rows of steps: the orders that they make, and the pairs that they cross."""

from seamlayers.checks import check_least, check_orders, check_rows
from seamlayers.errors import InvalidNumber
from seamlayers.kinds import check_kind, is_step
from seamlayers.orderwork import is_crossed
from seamlayers.rowwork import are_places, crossed_by, first_least, is_told_row, least_places, made_by
from seamlayers.rowwork import makes_no_detour


def is_row(kind, value):
    """Tell whether a value is a row of a kind."""
    check_kind(kind)
    return is_told_row(kind, value)


def made(kind, row):
    """Return the order that a row makes."""
    check_rows(kind, row)
    return made_by(kind, row)


def alike(kind, one, other):
    """Tell whether two rows make the same order."""
    check_rows(kind, one, other)
    return made_by(kind, one) == made_by(kind, other)


def crossed(kind, row):
    """Return the list of the pairs that the steps of a row cross, one after the other."""
    check_rows(kind, row)
    return crossed_by(kind, row)


def crossed_in(kind, order):
    """Return the list, in order, of the pairs that the least rows that make an order cross."""
    check_orders(kind, order)
    return sorted(crossed_by(kind, first_least(kind, order)))


def is_least(kind, row):
    """Tell whether a row has as many steps as the order that it makes has crossings."""
    check_rows(kind, row)
    return makes_no_detour(kind, row)


def least_part(kind, row):
    """Return places of a row whose steps are a least row that makes the same order."""
    check_rows(kind, row)
    return least_places(kind, row)


def is_least_part(kind, row, value):
    """Tell whether a value is a rising list of places as `least_part` returns them."""
    check_rows(kind, row)
    if not are_places(row, value):
        return False
    steps = [row[place] for place in value]
    return makes_no_detour(kind, steps) and made_by(kind, steps) == made_by(kind, row)


def out_for(kind, row, step):
    """Return the place of a least row whose step is left out when a fall is put behind."""
    check_least(kind, row)
    if not (is_step(kind, step) and is_crossed(kind, made_by(kind, row), step)):
        raise InvalidNumber(step)
    told = crossed_by(kind, row + [step])
    return told.index(told[-1])
