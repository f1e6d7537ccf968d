"""The checks of arguments that many functions share, in the order of the parameters."""

from seamlayers.blockwork import is_told_block
from seamlayers.errors import InvalidKind, InvalidList, InvalidNumber, InvalidOrder, InvalidRow, InvalidStanding
from seamlayers.errors import Unlike
from seamlayers.kinds import Kind, check_kind
from seamlayers.orderwork import is_told_order
from seamlayers.rowwork import is_told_row, makes_no_detour
from seamlayers.standwork import is_told_standing
from seamlayers.values import is_count


def check_orders(kind, *orders):
    """Refuse what is no kind, then each of the values that is no order of it."""
    check_kind(kind)
    for order in orders:
        if not is_told_order(kind, order):
            raise InvalidOrder(order)


def check_rows(kind, *rows):
    """Refuse what is no kind, then each of the values that is no row of it."""
    check_kind(kind)
    for row in rows:
        if not is_told_row(kind, row):
            raise InvalidRow(row)


def check_least(kind, row):
    """Refuse what is no kind, then what is no least row of it."""
    check_rows(kind, row)
    if not makes_no_detour(kind, row):
        raise InvalidRow(row)


def check_block(kind, block):
    """Refuse what is no block of a kind."""
    if not is_told_block(kind, block):
        raise InvalidList(block)


def check_count(number):
    """Refuse what is no count."""
    if not is_count(number):
        raise InvalidNumber(number)


def check_standing(kind, standing):
    """Refuse what is no kind, then what is no standing of it."""
    if not isinstance(kind, Kind):
        raise InvalidKind(kind)
    if not is_told_standing(kind, standing):
        raise InvalidStanding(standing)


def check_standings(kind, one, other):
    """Refuse what is no kind, then each of the values that is no standing of it, then unlike ones."""
    if not isinstance(kind, Kind):
        raise InvalidKind(kind)
    if not is_told_standing(kind, one):
        raise InvalidStanding(one)
    if not is_told_standing(kind, other):
        raise InvalidStanding(other)
    if len(one) != len(other):
        raise Unlike(other)
