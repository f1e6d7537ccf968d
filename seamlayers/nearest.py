"""How many deeds lead from standing to standing at least, and the shortest ways up."""

from seamlayers.checks import check_count, check_standings
from seamlayers.errors import InvalidNumber
from seamlayers.farwork import behind_deed, counts_of, far_down, far_up, fewest_between, first_nearer, key_of
from seamlayers.farwork import nearer_deeds, ways_nearer, wholes_and_start
from seamlayers.orderwork import count_crossings, heads_of, opposite_of, product_of
from seamlayers.standwork import after_deed, whole_of


def far_above(kind, standing):
    """Return the fewest deeds that lead from a standing to its uppermost one."""
    check_standings(kind, standing)
    return far_up(kind, standing)


def far_below(kind, standing):
    """Return the fewest deeds that lead from a standing to its lowermost one."""
    check_standings(kind, standing)
    return far_down(kind, standing)


def nearer(kind, standing):
    """Return the deeds, in order, behind which `far_above` is one less."""
    check_standings(kind, standing)
    return nearer_deeds(kind, standing, wholes_and_start(kind, standing))


def partner(kind, standing):
    """Return the standing behind the deed at the least head of the last layer that isn't the start, or None."""
    check_standings(kind, standing)
    for at in range(len(standing) - 1, 0, -1):
        steps = heads_of(kind, standing[at])
        if steps:
            return after_deed(kind, standing, (at - 1, "upper", steps[0]))
    return None


def way_up(kind, standing):
    """Return the first, in order, of the shortest ways up."""
    check_standings(kind, standing)
    deeds = []
    layers, wholes = standing, wholes_and_start(kind, standing)
    deed = first_nearer(kind, layers, wholes)
    while deed is not None:
        deeds.append(deed)
        layers, wholes = behind_deed(kind, layers, wholes, deed)
        deed = first_nearer(kind, layers, wholes)
    return deeds


def how_many_up(kind, standing):
    """Return how many shortest ways up there are."""
    check_standings(kind, standing)
    return counts_of(ways_nearer(kind, standing))[key_of(standing)]


def up_numbered(kind, standing, number):
    """Return the shortest way up ahead of which just so many are, in order."""
    check_standings(kind, standing)
    check_count(number)
    ways = ways_nearer(kind, standing)
    counts = counts_of(ways)
    here = key_of(standing)
    if number >= counts[here]:
        raise InvalidNumber(number)
    deeds = []
    while ways[here]:
        for deed, there in ways[here]:
            if number < counts[there]:
                break
            number -= counts[there]
        deeds.append(deed)
        here = there
    return deeds


def odd(kind, one, other):
    """Tell whether ways between two standings have an odd number of deeds, None if there are none."""
    check_standings(kind, one, other)
    if not _are_joined(kind, one, other):
        return None
    return (far_up(kind, one) + far_up(kind, other)) % 2 == 1


def seam_needs(kind, one, other):
    """Return how many upper and lower deeds there are at each seam at least, or None."""
    check_standings(kind, one, other)
    if not _are_joined(kind, one, other):
        return None
    return _needs(kind, one, other)


def bounds(kind, one, other):
    """Return two numbers between which the fewest deeds of a way are, or None."""
    check_standings(kind, one, other)
    if not _are_joined(kind, one, other):
        return None
    here, there = far_up(kind, one), far_up(kind, other)
    low, beyond = far_down(kind, one), far_down(kind, other)
    needs = sum([upper + lower for upper, lower in _needs(kind, one, other)])
    return max(abs(here - there), abs(low - beyond), needs), min(here + there, low + beyond)


def fewest(kind, one, other):
    """Return the fewest deeds of a way between two standings, None if there is none."""
    check_standings(kind, one, other)
    if not _are_joined(kind, one, other):
        return None
    return fewest_between(kind, one, other)


def _are_joined(kind, one, other):
    """Tell whether two standings have the same whole."""
    return whole_of(kind, one) == whole_of(kind, other)


def _needs(kind, one, other):
    """Return by how many crossings the wholes above and below each seam are apart."""
    needs = []
    for at in range(1, len(one)):
        above = product_of(kind, opposite_of(kind, whole_of(kind, one[:at])), whole_of(kind, other[:at]))
        below = product_of(kind, whole_of(kind, other[at:]), opposite_of(kind, whole_of(kind, one[at:])))
        needs.append((count_crossings(kind, above), count_crossings(kind, below)))
    return needs
