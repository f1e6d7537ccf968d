"""Which orders are beneath which, with a part of a row or a cell that tells it."""

from seamlayers.beneathwork import lies_beneath, places_of
from seamlayers.checks import check_orders, check_rows
from seamlayers.errors import InvalidNumber
from seamlayers.longwork import is_cut, length_of, many_ahead
from seamlayers.rowwork import are_places, made_by
from seamlayers.values import is_whole


def is_beneath(kind, one, other):
    """Tell whether an order is beneath another one."""
    check_orders(kind, one, other)
    return lies_beneath(kind, one, other)


def part(kind, order, row):
    """Return the places of steps of a row that are a least row that makes an order, or None."""
    check_orders(kind, order)
    check_rows(kind, row)
    return places_of(kind, order, row)


def is_part(kind, order, row, value):
    """Tell whether a value is a rising list of places of a row whose steps make an order."""
    check_orders(kind, order)
    check_rows(kind, row)
    return are_places(row, value) and made_by(kind, [row[at] for at in value]) == order


def ahead(kind, order, cut, number):
    """Return how many of the items ahead of a cut of the long row are at least a number."""
    check_orders(kind, order)
    if not is_cut(kind, cut):
        raise InvalidNumber(cut)
    if not is_whole(number):
        raise InvalidNumber(number)
    return many_ahead(kind, order, cut, number)


def barred_cell(kind, one, other):
    """Return the least cut, and the least number with it, with more ahead for the first order, or None."""
    check_orders(kind, one, other)
    # All numbers beyond stand on the same side of each cut in both orders.
    far = kind.size() + max([abs(item) for item in one + other])
    for cut in range(length_of(kind) + 1):
        for number in range(-far, far + 1):
            if many_ahead(kind, one, cut, number) > many_ahead(kind, other, cut, number):
                return cut, number
    return None


def is_barred(kind, one, other, value):
    """Tell whether a value is a tuple of a cut and a number with more ahead for the first order."""
    check_orders(kind, one, other)
    if not (isinstance(value, tuple) and len(value) == 2):
        return False
    cut, number = value
    if not (is_cut(kind, cut) and is_whole(number)):
        return False
    return many_ahead(kind, one, cut, number) > many_ahead(kind, other, cut, number)
