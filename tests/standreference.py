"""The words of the document on standings done in the plainest way, to compare the package with."""

from tests import reference


def greedy(kind, one, other):
    return reference.gains(kind, one, reference.down(kind, other))


def whole(kind, layers):
    order = reference.start(kind)
    for layer in layers:
        order = greedy(kind, order, layer)
    return order


def many(kind, order):
    """The crossings of an order."""
    return len(reference.down(kind, order))


def turned(kind, order):
    """The opposite of an order: where the numbers of the start stand."""
    size = kind.size()
    if kind.name() == "mirror":
        return [order.index(number) + 1 if number in order else -order.index(-number) - 1
                for number in range(1, size + 1)]
    places = {one % size: at - one // size * size for at, one in enumerate(order)}
    return [places[number] for number in range(size)]


def heads(kind, order):
    return reference.falls_of(kind, turned(kind, order))


def deeds_there(kind, layers):
    """The deeds of a standing."""
    found = []
    for seam in range(len(layers) - 1):
        found += [(seam, "lower", step) for step in reference.falls_of(kind, layers[seam])]
        found += [(seam, "upper", step) for step in heads(kind, layers[seam + 1])]
    return found


def behind(kind, layers, deed):
    """The standing behind a deed."""
    seam, side, step = deed
    if side == "upper":
        return layers[:seam] + [reference.step_done(kind, layers[seam], step)] + layers[seam + 1:]
    # The product of one step and of an order is the opposite of the step done to the order's opposite.
    lower = turned(kind, reference.step_done(kind, turned(kind, layers[seam + 1]), step))
    return layers[:seam + 1] + [lower] + layers[seam + 2:]


def deeds(kind, layers):
    """A dict from the deeds of a standing to the standings behind them."""
    return {deed: behind(kind, layers, deed) for deed in deeds_there(kind, layers)}


def told(layers):
    return tuple(tuple(layer) for layer in layers)


def walk(kind, layers, most=10 ** 6):
    """A dict from all standings that deeds lead to, to the fewest deeds; at most about so many."""
    far = {told(layers): 0}
    level = [layers]
    while level and len(far) <= most:
        further = []
        for here in level:
            for there in deeds(kind, here).values():
                if told(there) not in far:
                    far[told(there)] = far[told(here)] + 1
                    further.append(there)
        level = further
    return far


def led(kind, layers, some_deeds):
    """The standing behind deeds; a KeyError if one is none."""
    for deed in some_deeds:
        if deed not in deeds_there(kind, layers):
            raise KeyError(deed)
        layers = behind(kind, layers, deed)
    return layers


def standings_of(kind, orders, layers):
    """All standings of so many layers that are among some orders."""
    found = [[]]
    for _ in range(layers):
        found = [one + [order] for one in found for order in orders]
    return found


def joined_sets(kind, orders, layers):
    """All standings with layers among some orders, by their wholes."""
    found = {}
    for one in standings_of(kind, orders, layers):
        found.setdefault(tuple(whole(kind, one)), []).append(one)
    return found


def thrown(kind, chance, layers, length, most=60):
    """A standing whose layers have at most so many crossings, its whole too."""
    while True:
        found = [reference.row_done(kind, kind.start(), chance.least_row(kind, chance.below(length + 1)))
                 for _ in range(layers)]
        if many(kind, whole(kind, found)) <= most:
            return found


def shaken(kind, chance, layers, times):
    """A standing that is joined to another one, behind so many deeds thrown."""
    for _ in range(times):
        found = deeds_there(kind, layers)
        layers = behind(kind, layers, found[chance.below(len(found))]) if found else layers
    return layers


def wholes(kind, layers):
    return [whole(kind, layers[at:]) for at in range(len(layers))]


def turned_over(kind, layers):
    return [turned(kind, layer) for layer in layers[::-1]]


def far_above(kind, layers):
    """The sum that point 27 tells."""
    told = [many(kind, order) for order in wholes(kind, layers)]
    return told[0] + 2 * sum(told[1:]) - sum(many(kind, layer) for layer in layers)


def far_below(kind, layers):
    return far_above(kind, turned_over(kind, layers))


def most_deeds(kind, one, other):
    """The last number of `bounds`."""
    above = far_above(kind, one) + far_above(kind, other)
    return min(above, far_below(kind, one) + far_below(kind, other))
