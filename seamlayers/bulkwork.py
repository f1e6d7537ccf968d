"""A step done on many orders at once, without checks.

The orders are tuples here, and so are those that come of them: a dict takes them as its keys.
"""


def risen(kind, orders, step):
    """Return, for those of some orders that are not crossed at a step, the tuples (order, order behind it)."""
    at = step
    if kind.name() == "mirror":
        if step == 0:
            return [(here, (-here[0],) + here[1:]) for here in orders if here[0] > 0]
        at = step - 1
    size = kind.size()
    if at == size - 1:
        ends = [(here, here[-1] - size, here[0] + size) for here in orders if here[-1] < here[0] + size]
        return [(here, (first,) + here[1:-1] + (last,)) for here, first, last in ends]
    behind = at + 1
    return [(here, here[:at] + (here[behind], here[at]) + here[behind + 1:])
            for here in orders if here[at] < here[behind]]


def fallen(kind, orders, step):
    """Return what comes by a step of those of some orders that are crossed at it."""
    at = step
    if kind.name() == "mirror":
        if step == 0:
            return [(-here[0],) + here[1:] for here in orders if here[0] < 0]
        at = step - 1
    size = kind.size()
    if at == size - 1:
        return [(here[-1] - size,) + here[1:-1] + (here[0] + size,) for here in orders if here[-1] > here[0] + size]
    behind = at + 1
    return [here[:at] + (here[behind], here[at]) + here[behind + 1:] for here in orders if here[at] > here[behind]]
