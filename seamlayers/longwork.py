"""Long rows of orders, and what stands ahead of cuts of them, without checks."""

from seamlayers.orderwork import item_at
from seamlayers.values import is_whole


def with_negatives(order):
    """Return the items from the last to the first with their signs changed, and then from the first."""
    return [-item for item in reversed(order)] + order


def length_of(kind):
    """Return how many items a long row has, for rings how many until it comes again."""
    return 2 * kind.size() if kind.name() == "mirror" else kind.size()


def is_cut(kind, value):
    """Tell whether a value is a cut of the long rows of a kind."""
    return is_whole(value) and (kind.name() == "ring" or 0 <= value <= length_of(kind))


def many_ahead(kind, order, cut, number):
    """Return how many of the items ahead of a cut are at least a number."""
    if kind.name() != "ring":
        items = with_negatives(order) if kind.name() == "mirror" else order
        return len([item for item in items[:cut] if item >= number])
    many = 0
    for place, item in enumerate(order):
        # The last of the places ahead of the cut at which this item comes again has the greatest number.
        last = item + (cut - 1 - place) // kind.size() * kind.size()
        many += max(0, (last - number) // kind.size() + 1)
    return many


def is_number(kind, value):
    """Tell whether a value is a number of the long rows of a kind."""
    if not is_whole(value):
        return False
    if kind.name() == "mirror":
        return 1 <= abs(value) <= kind.size()
    return kind.name() == "ring" or 0 <= value < kind.size()


def are_crossed(kind, flipped, low, high):
    """Tell whether two numbers are crossed by the order whose opposite is told."""
    # The opposite tells at which places the numbers stand.
    return item_at(kind, flipped, high) < item_at(kind, flipped, low)
