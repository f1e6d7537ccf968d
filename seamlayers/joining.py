"""Standings that deeds lead to one another, and the ways between them."""

from seamlayers.checks import check_standing, check_standings
from seamlayers.errors import InvalidList
from seamlayers.standwork import after_deed, is_deed, whole_of
from seamlayers.values import are_whole, is_rising
from seamlayers.waywork import stretches_of, way_between


def joined(kind, one, other):
    """Tell whether deeds lead from a standing to another one."""
    check_standings(kind, one, other)
    return whole_of(kind, one) == whole_of(kind, other)


def way(kind, one, other):
    """Return deeds, one behind the other, that lead from a standing to another one, or None."""
    check_standings(kind, one, other)
    return way_between(kind, one, other)


def is_way(kind, one, other, value):
    """Tell whether a value is a list of deeds that lead from a standing to another one."""
    check_standings(kind, one, other)
    if not isinstance(value, list):
        return False
    layers = one
    for deed in value:
        if not is_deed(kind, layers, deed):
            return False
        layers = after_deed(kind, layers, deed)
    return layers == other


def uppermost(kind, standing):
    """Return the joined standing all layers of which but the first are the start."""
    check_standing(kind, standing)
    return [whole_of(kind, standing)] + [kind.start() for _ in range(len(standing) - 1)]


def lowermost(kind, standing):
    """Return the joined standing all layers of which but the last are the start."""
    check_standing(kind, standing)
    return [kind.start() for _ in range(len(standing) - 1)] + [whole_of(kind, standing)]


def joined_at(kind, one, other, seams):
    """Tell whether deeds at told seams alone lead from a standing to another one."""
    check_standings(kind, one, other)
    _check_seams(one, seams)
    bounds = stretches_of(len(one), seams)
    return all([whole_of(kind, one[begin:end]) == whole_of(kind, other[begin:end]) for begin, end in bounds])


def way_at(kind, one, other, seams):
    """Return deeds at told seams that lead from a standing to another one, or None."""
    check_standings(kind, one, other)
    _check_seams(one, seams)
    deeds = []
    for begin, end in stretches_of(len(one), seams):
        found = way_between(kind, one[begin:end], other[begin:end])
        if found is None:
            return None
        deeds.extend([(begin + seam, side, step) for seam, side, step in found])
    return deeds


def _check_seams(standing, seams):
    """Refuse what is no list of unlike seams of a standing, in order."""
    if not (isinstance(seams, list) and are_whole(seams) and is_rising(seams)):
        raise InvalidList(seams)
    if seams and not (seams[0] >= 0 and seams[-1] < len(standing) - 1):
        raise InvalidList(seams)
