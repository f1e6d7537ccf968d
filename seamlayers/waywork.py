"""Ways between joined standings, without checks."""

from seamlayers.orderwork import exchange_in, order_in, spread_of
from seamlayers.rowwork import first_least
from seamlayers.standwork import turned_over


def stretches_of(many, seams):
    """Return the tuples (begin, end) of the stretches of layers that told seams hold together."""
    stretches = []
    begin = 0
    for end in range(1, many + 1):
        if end - 1 not in seams:
            stretches.append((begin, end))
            begin = end
    return stretches


def way_to_top(kind, layers):
    """Return deeds, as few as can be, that lead to the uppermost standing, and the whole."""
    name = kind.name()
    deeds = []
    below = list(layers[-1])
    # From the last seam on the layer below is taken off, head by head, while the upper one gains its steps.
    for seam in range(len(layers) - 2, -1, -1):
        spread = spread_of(kind, layers[seam])
        for step in first_least(kind, below):
            if spread[step] < spread[step + 1]:
                exchange_in(name, spread, step)
                deeds.append((seam, "upper", step))
            deeds.append((seam, "lower", step))
        below = order_in(kind, spread)
    return deeds, below


def way_to_bottom(kind, layers):
    """Return deeds, as few as can be, that lead to the lowermost standing."""
    last = len(layers) - 2
    sides = {"upper": "lower", "lower": "upper"}
    deeds, _ = way_to_top(kind, turned_over(kind, layers))
    return [(last - seam, sides[side], step) for seam, side, step in deeds]


def way_between(kind, one, other):
    """Return deeds that lead from a standing to another one, over the nearer end, None if they are not joined."""
    up, whole = way_to_top(kind, one)
    down, further = way_to_top(kind, other)
    if whole != further:
        return None
    # Each deed is undone by itself: so a way back is the way, the last deed first.
    above = up + down[::-1]
    below = way_to_bottom(kind, one) + way_to_bottom(kind, other)[::-1]
    return above if len(above) <= len(below) else below
