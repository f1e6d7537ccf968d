"""What lies beneath an order, without checks."""

from seamlayers.bulkwork import risen
from seamlayers.errors import TooMany
from seamlayers.orderwork import after_step, count_crossings, falls_of, is_crossed, opposite_of, product_of
from seamlayers.rowwork import crossed_by, first_least


def places_of(kind, order, row):
    """Return the places of steps of a row that are a least row that makes an order, or None."""
    places = []
    # From behind, each fall can be taken off as soon as it comes: what is beneath stays so.
    for at in range(len(row) - 1, -1, -1):
        if is_crossed(kind, order, row[at]):
            places.append(at)
            order = after_step(kind, order, row[at])
    return places[::-1] if order == kind.start() else None


def lies_beneath(kind, one, other):
    """Tell whether an order is beneath another one."""
    return places_of(kind, one, first_least(kind, other)) is not None


def all_beneath(kind, order, most=None):
    """Return a dict from all orders beneath an order, as tuples, to their crossings.

    If there are more than `most`, they are refused.
    """
    found = {tuple(kind.start()): 0}
    for step in first_least(kind, order):
        moves = risen(kind, found, step)
        for here, there in moves:
            if there not in found:
                found[there] = found[here] + 1
        if most is not None and len(found) > most:
            raise TooMany(most + 1)
    return found


def counts_between(kind, one, other):
    """Return how many orders between two orders, the first beneath the second, have 0, 1, 2, .. crossings."""
    least, lessened = count_crossings(kind, one), {}
    crossings, paths = _told_by_paths(kind, other)
    counts = [0] * (crossings[-1] + 1)
    for place, many in enumerate(crossings):
        if many >= least and (least == 0 or _is_above(kind, one, (place, many - least), paths, lessened)):
            counts[many] += 1
    return counts


def _told_by_paths(kind, order):
    """Return the crossings of all orders beneath an order, the start first, and how each comes from the start.

    It comes, by a step behind, from one that stands ahead of it: this is told as a tuple (place, step).
    """
    found = {tuple(kind.start()): 0}
    crossings, paths = [0], [None]
    for step in first_least(kind, order):
        moves = risen(kind, found, step)
        for here, there in moves:
            if there not in found:
                found[there] = len(crossings)
                crossings.append(crossings[found[here]] + 1)
                paths.append((found[here], step))
    return crossings, paths


def _is_above(kind, one, above, paths, lessened):
    """Tell whether an order is beneath another one, told by its place and by how many more crossings it has.

    What steps make of the lesser order, and of those that come of it, is kept for further calls.
    """
    place, more = above
    here = tuple(one)
    # By each step back on the path the greater order gets less, and so does the lesser one if it is crossed there.
    while place and more >= 0:
        place, step = paths[place]
        if here not in lessened:
            falls = falls_of(kind, here)
            lessened[here] = {fall: tuple(after_step(kind, here, fall)) for fall in falls}
        if step in lessened[here]:
            here = lessened[here][step]
        else:
            more -= 1
    return more >= 0


def exchange_of(kind, one, other):
    """Return the order that exchanges two numbers, with all that go with them, and leaves the others."""
    moved = kind.start()
    if kind.name() == "mirror":
        for low, high in ((one, other), (other, one)):
            moved[abs(low) - 1] = high if low > 0 else -high
        return moved
    for low, high in ((one, other), (other, one)):
        inside = low % kind.size()
        moved[inside] = high - low + inside
    return moved


def next_under(kind, order):
    """Return the orders beneath an order that have one crossing less, in order."""
    pairs = crossed_by(kind, first_least(kind, order))
    return _exchanged(kind, order, pairs, count_crossings(kind, order) - 1)


def next_over(kind, order):
    """Return the orders that an order is beneath and that have one crossing more, in order."""
    return _exchanged(kind, order, _pairs_to_cross(kind, order), count_crossings(kind, order) + 1)


def _exchanged(kind, order, pairs, crossings):
    """Return the orders with so many crossings in which two numbers of an order are exchanged, in order."""
    told = [product_of(kind, exchange_of(kind, low, high), order) for low, high in pairs]
    return sorted([moved for moved in told if count_crossings(kind, moved) == crossings])


def _pairs_to_cross(kind, order):
    """Return pairs of numbers, those among them that one crossing more may come of."""
    size = kind.size()
    if kind.name() == "plain":
        return [(low, high) for high in range(size) for low in range(high)]
    if kind.name() == "mirror":
        return [(low, high) for high in range(1, size + 1) for low in range(-high, high) if low != 0]
    # Two numbers of a ring that differ by more than the size, and stand further apart than it, cross more at once.
    flipped = opposite_of(kind, order)
    pairs = [(low, high) for low in range(size) for high in range(low + 1, low + size)]
    for low in range(size):
        for place in range(flipped[low] + 1, flipped[low] + size):
            high = order[place % size] + place - place % size
            if high >= low + size:
                pairs.append((low, high))
    return pairs
