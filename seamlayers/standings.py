"""Standings of layers, and the deeds at their seams."""

from seamlayers.checks import check_standing
from seamlayers.errors import InvalidDeed, InvalidKind, InvalidList
from seamlayers.kinds import Kind
from seamlayers.standwork import after_deed, deeds_of, is_deed, is_told_standing, turned_over, whole_of, wholes_of


def is_standing(kind, value):
    """Tell whether a value is a standing of a kind."""
    if not isinstance(kind, Kind):
        raise InvalidKind(kind)
    return is_told_standing(kind, value)


def whole(kind, standing):
    """Return the greedy product of the layers of a standing, one behind the other."""
    check_standing(kind, standing)
    return whole_of(kind, standing)


def wholes(kind, standing):
    """Return the wholes of all layers, of all but the first, .., of the last one alone."""
    check_standing(kind, standing)
    return wholes_of(kind, standing)


def turned(kind, standing):
    """Return the standing of the opposites of the layers, the last one first."""
    check_standing(kind, standing)
    return turned_over(kind, standing)


def deeds(kind, standing):
    """Return all deeds that there are in a standing, in order."""
    check_standing(kind, standing)
    return deeds_of(kind, standing)


def done(kind, standing, deed):
    """Return the standing behind a deed."""
    check_standing(kind, standing)
    return _done(kind, standing, deed)


def led(kind, standing, deeds):
    """Return the standing behind the deeds of a list, one behind the other."""
    check_standing(kind, standing)
    if not isinstance(deeds, list):
        raise InvalidList(deeds)
    layers = [list(layer) for layer in standing]
    for deed in deeds:
        layers = _done(kind, layers, deed)
    return layers


def _done(kind, layers, deed):
    """Return the layers behind a deed, and refuse what is none."""
    if not is_deed(kind, layers, deed):
        raise InvalidDeed(deed)
    return after_deed(kind, layers, deed)
