"""Mirror orders as plain orders of twice their size."""

from seamlayers.errors import InvalidNumber, InvalidOrder
from seamlayers.kinds import Kind
from seamlayers.longwork import with_negatives
from seamlayers.orderwork import is_told_order
from seamlayers.values import is_whole

MOST_SIZE = 3


def unfolded(order, size):
    """Return the plain order of twice the size that a mirror order unfolds to."""
    _check_order(order, "mirror", size, 1)
    # There is no item 0: those above it have one rank less than their distance from the least.
    return [item + size if item < 0 else item + size - 1 for item in with_negatives(order)]


def folded(order, size):
    """Return the mirror order that unfolds to a plain order of twice the size, or None."""
    _check_order(order, "plain", size, 2)
    if any([order[at] + order[-1 - at] != 2 * size - 1 for at in range(size)]):
        return None
    return [rank - size if rank < size else rank - size + 1 for rank in order[size:]]


def _check_order(order, name, size, times):
    """Refuse what is no size, then what is no order of the named kind of so many times the size."""
    if not (is_whole(size) and 1 <= size <= MOST_SIZE):
        raise InvalidNumber(size)
    if not is_told_order(Kind(name, times * size), order):
        raise InvalidOrder(order)
