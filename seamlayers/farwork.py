"""How far standings are from the uppermost one, and which deeds lead nearer to it, without checks.

Only the wholes of the last layers are needed for this. They are handed on with the
layers, with the start, the whole of no layer, behind them: a deed changes at most one.
"""

from seamlayers.errors import TooMany
from seamlayers.greedywork import greedy_of
from seamlayers.orderwork import after_step, count_crossings, is_crossed, opposite_of
from seamlayers.standwork import after_deed, deeds_of, turned_over, wholes_of

MOST_STANDINGS = 500


def far_up(kind, layers):
    """Return the fewest deeds that lead to the uppermost standing."""
    told = [count_crossings(kind, whole) for whole in wholes_of(kind, layers)]
    return 2 * sum(told) - told[0] - sum([count_crossings(kind, layer) for layer in layers])


def far_down(kind, layers):
    """Return the fewest deeds that lead to the lowermost standing."""
    return far_up(kind, turned_over(kind, layers))


def wholes_and_start(kind, layers):
    """Return the wholes of all layers, of all but the first, .., of none."""
    return wholes_of(kind, layers) + [kind.start()]


def is_nearer(kind, layers, wholes, deed):
    """Tell whether the uppermost standing is one deed nearer behind a deed."""
    seam, side, step = deed
    if side == "upper":
        # No whole changes, so it hangs on the upper layer alone.
        return not is_crossed(kind, layers[seam], step)
    whole = wholes[seam + 1]
    flipped = opposite_of(kind, layers[seam + 1])
    if not is_crossed(kind, flipped, step):
        # The lower layer gets greater, and the whole from it on must not.
        return is_crossed(kind, opposite_of(kind, whole), step)
    # The lower layer gets less, and so must the whole from it on.
    less = opposite_of(kind, after_step(kind, flipped, step))
    return greedy_of(kind, less, wholes[seam + 2]) != whole


def nearer_deeds(kind, layers, wholes):
    """Return the deeds, in order, behind which the uppermost standing is one deed nearer."""
    return [deed for deed in deeds_of(kind, layers) if is_nearer(kind, layers, wholes, deed)]


def first_nearer(kind, layers, wholes):
    """Return the first of the deeds behind which the uppermost standing is nearer, or None."""
    for deed in deeds_of(kind, layers):
        if is_nearer(kind, layers, wholes, deed):
            return deed
    return None


def behind_deed(kind, layers, wholes, deed):
    """Return the layers behind a deed, and their wholes."""
    seam, side, _ = deed
    moved = after_deed(kind, layers, deed)
    if side == "upper":
        return moved, wholes
    return moved, wholes[:seam + 1] + [greedy_of(kind, moved[seam + 1], wholes[seam + 2])] + wholes[seam + 2:]


def key_of(layers):
    """Return what stands for a standing as the key of a dict."""
    return tuple([tuple(layer) for layer in layers])


def ways_nearer(kind, layers):
    """Return for each standing on the shortest ways up the tuples (deed, standing behind it), in order.

    Standings are told by their keys, those nearer to the uppermost one behind the others.
    """
    ways = {}
    level = {key_of(layers): (layers, wholes_and_start(kind, layers))}
    many = 1
    while level:
        found = {}
        for key, (here, wholes) in level.items():
            ways[key] = []
            for deed in nearer_deeds(kind, here, wholes):
                there, further = behind_deed(kind, here, wholes, deed)
                ways[key].append((deed, key_of(there)))
                found[key_of(there)] = (there, further)
            if many + len(found) > MOST_STANDINGS:
                raise TooMany(MOST_STANDINGS + 1)
        many += len(found)
        level = found
    return ways


def counts_of(ways):
    """Return for each standing of `ways_nearer` how many shortest ways lead up from it."""
    counts = {}
    for key in reversed(list(ways)):
        counts[key] = sum([counts[there] for _, there in ways[key]]) if ways[key] else 1
    return counts


def fewest_between(kind, one, other):
    """Return the fewest deeds of a way between two joined standings."""
    goal = key_of(other)
    known = {key_of(one): True}
    level, many = [one], 0
    while goal not in known:
        # All that are known by now are led to by fewer deeds than the goal.
        if len(known) > MOST_STANDINGS:
            raise TooMany(MOST_STANDINGS + 1)
        level = _one_deed_on(kind, level, known)
        many += 1
    return many


def _one_deed_on(kind, level, known):
    """Return the standings behind one deed from those of a list that were not known, and make them known."""
    found = []
    for layers in level:
        for deed in deeds_of(kind, layers):
            there = after_deed(kind, layers, deed)
            key = key_of(there)
            if key not in known:
                known[key] = True
                found.append(there)
    return found
