"""All orders of a kind with so many crossings, without checks.

Each is put together for itself and just once: no orders with fewer crossings are gone through for them.
"""

from seamlayers.orderwork import after_step


def listed_with(kind, crossings):
    """Return the orders of a kind that have just so many crossings, in order."""
    start = kind.start()
    # To put together the fewest takes longer than to step to them.
    if crossings == 0:
        return [start]
    if crossings == 1:
        return sorted([after_step(kind, start, step) for step in range(kind.steps())])
    if kind.name() == "ring":
        return sorted(_rings_with(start, crossings))
    return sorted(_put_together(start, kind.name() == "mirror", crossings))


def _put_together(numbers, mirrored, crossings):
    """Return the orders of rising numbers, of a mirror kind if they are mirrored, that have so many crossings."""
    size = len(numbers)
    behind = size * size if mirrored else size * (size - 1) // 2
    if crossings > behind:
        return []
    if crossings == 0:
        return [list(numbers)]
    found = []
    begun = [([], crossings)]
    for many, number in enumerate(numbers):
        most = 2 * many + 1 if mirrored else many
        # What the numbers behind can't take of the crossings that are left, this one must.
        behind -= most
        further = []
        for order, left in begun:
            least = left - behind if left > behind else 0
            for more in range(least, (left if left < most else most) + 1):
                moved = _with_greatest(order, number, more)
                if more == left:
                    found.append(moved + numbers[many + 1:])
                else:
                    further.append((moved, left - more))
        begun = further
    return found


def _with_greatest(order, number, more):
    """Return an order with a number put in, greater than all in it, by which it gets so many crossings more."""
    place = len(order) - more
    if place >= 0:
        return order[:place] + [number] + order[place:]
    # With the other sign it crosses itself and each other one once, and those ahead of it once more.
    return order[:-1 - place] + [-number] + order[-1 - place:]


def _rings_with(start, crossings):
    """Return the ring orders that have so many crossings."""
    most = len(start) * (len(start) - 1) // 2
    found = []
    # Each is one whose items rise, put as a plain order tells: it has the crossings of both together.
    for left, risen in enumerate(_risen_rings(start, crossings)[:most + 1]):
        rows = _put_together(start, False, left)
        found.extend([[order[at] for at in row] for row in rows for order in risen])
    return found


def _risen_rings(start, crossings):
    """Return the ring orders whose items rise: lists of those which lack 0, 1, 2, .. of so many crossings."""
    size = len(start)
    found = [[] for _ in range(crossings)] + [[start]]
    level = [(start, crossings, size - 1)]
    lifted = -1
    # Each comes from the start by just one row of lifts none of which is longer than the one ahead.
    while level:
        further = []
        for order, left, longest in level:
            for length in range(1, (left if left < longest else longest) + 1):
                # A lift takes one item of the row without ends, and all that come again, above the next ones.
                change = [length] + [-1] * length + [0] * (size - 1 - length)
                moved = [item + change[(item - lifted) % size] for item in order]
                found[left - length].append(moved)
                if length < left:
                    further.append((moved, left - length, length))
        level = further
        lifted -= 1
    return found
