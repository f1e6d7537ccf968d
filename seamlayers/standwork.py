"""Standings of layers, their wholes and deeds, without checks.

All functions take a kind and the layers of a standing, and return new lists.
"""

from seamlayers.greedywork import greedy_of
from seamlayers.kinds import is_step
from seamlayers.orderwork import MOST_CROSSINGS, after_step, after_step_ahead, count_crossings, falls_of, heads_of
from seamlayers.orderwork import is_crossed, is_told_order, opposite_of
from seamlayers.values import is_count

MOST_LAYERS = 8


def wholes_of(kind, layers):
    """Return the wholes of all layers, of all but the first, .., of the last one alone."""
    whole = list(layers[-1])
    wholes = [whole]
    for layer in reversed(layers[:-1]):
        whole = greedy_of(kind, layer, whole)
        wholes.append(whole)
    return wholes[::-1]


def wholes_ahead_of(kind, layers):
    """Return the wholes of the first layer alone, of the first two, .., of all layers."""
    whole = list(layers[0])
    wholes = [whole]
    for layer in layers[1:]:
        whole = greedy_of(kind, whole, layer)
        wholes.append(whole)
    return wholes


def whole_of(kind, layers):
    """Return the greedy product of the layers, one behind the other."""
    whole = list(layers[0])
    for layer in layers[1:]:
        whole = greedy_of(kind, whole, layer)
    return whole


def is_told_standing(kind, value):
    """Tell whether a value is a standing that may be handed in."""
    if not (isinstance(value, list) and 1 <= len(value) <= MOST_LAYERS):
        return False
    for layer in value:
        if not is_told_order(kind, layer):
            return False
    return kind.name() != "ring" or _is_small(kind, value)


def _is_small(kind, layers):
    """Tell whether the whole of layers has no more crossings than may be handed in."""
    # It never has more than all layers together, and mostly this tells it.
    if sum([count_crossings(kind, layer) for layer in layers]) <= MOST_CROSSINGS:
        return True
    return count_crossings(kind, whole_of(kind, layers)) <= MOST_CROSSINGS


def turned_over(kind, layers):
    """Return the opposites of the layers, the last one first."""
    return [opposite_of(kind, layer) for layer in reversed(layers)]


def deeds_at(kind, layers, seam):
    """Return the deeds that there are at a seam, in order."""
    lower = [(seam, "lower", step) for step in falls_of(kind, layers[seam])]
    return lower + [(seam, "upper", step) for step in heads_of(kind, layers[seam + 1])]


def deeds_of(kind, layers):
    """Return all deeds that there are, in order."""
    return [deed for seam in range(len(layers) - 1) for deed in deeds_at(kind, layers, seam)]


def is_deed(kind, layers, value):
    """Tell whether a value is a deed that there is."""
    if not (isinstance(value, tuple) and len(value) == 3):
        return False
    seam, side, step = value
    if not (is_count(seam) and seam < len(layers) - 1 and is_step(kind, step)):
        return False
    if side == "upper":
        return is_crossed(kind, opposite_of(kind, layers[seam + 1]), step)
    return side == "lower" and is_crossed(kind, layers[seam], step)


def after_deed(kind, layers, deed):
    """Return the layers behind a deed."""
    seam, side, step = deed
    moved = [list(layer) for layer in layers]
    if side == "upper":
        moved[seam] = after_step(kind, layers[seam], step)
    else:
        moved[seam + 1] = after_step_ahead(kind, layers[seam + 1], step)
    return moved
