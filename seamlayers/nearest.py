"""How many deeds lead from standing to standing at least, and the shortest ways up."""

from seamlayers.checks import check_count, check_standing, check_standings
from seamlayers.errors import InvalidNumber
from seamlayers.farwork import counts_of, far_down, far_of, far_up, fewest_between, first_way_up, nearer_ones
from seamlayers.farwork import numbers_and_wholes, ways_nearer
from seamlayers.orderwork import count_crossings, heads_of, opposite_of, product_of
from seamlayers.seamwork import Seams
from seamlayers.standwork import after_deed, whole_of, wholes_ahead_of, wholes_of


def far_above(kind, standing):
    """Return the fewest deeds that lead from a standing to its uppermost one."""
    check_standing(kind, standing)
    return far_up(kind, standing)


def far_below(kind, standing):
    """Return the fewest deeds that lead from a standing to its lowermost one."""
    check_standing(kind, standing)
    return far_down(kind, standing)


def nearer(kind, standing):
    """Return the deeds, in order, behind which `far_above` is one less."""
    check_standing(kind, standing)
    seams = Seams(kind)
    here, wholes = numbers_and_wholes(seams, kind, standing)
    return [deed for deed, _, _ in nearer_ones(seams, here, wholes)]


def partner(kind, standing):
    """Return the standing behind the deed at the least head of the last layer that isn't the start, or None."""
    check_standing(kind, standing)
    for at in range(len(standing) - 1, 0, -1):
        steps = heads_of(kind, standing[at])
        if steps:
            return after_deed(kind, standing, (at - 1, "upper", steps[0]))
    return None


def way_up(kind, standing):
    """Return the first, in order, of the shortest ways up."""
    check_standing(kind, standing)
    return first_way_up(kind, standing)


def how_many_up(kind, standing):
    """Return how many shortest ways up there are."""
    check_standing(kind, standing)
    begin, ways = ways_nearer(kind, standing)
    return counts_of(ways)[begin]


def up_numbered(kind, standing, number):
    """Return the shortest way up ahead of which just so many are, in order."""
    check_standing(kind, standing)
    check_count(number)
    here, ways = ways_nearer(kind, standing)
    counts = counts_of(ways)
    if number >= counts[here]:
        raise InvalidNumber(number)
    deeds = []
    while ways[here]:
        for deed, there in ways[here]:
            if number < counts[there]:
                break
            number -= counts[there]
        deeds.append(deed)
        here = there
    return deeds


def odd(kind, one, other):
    """Tell whether ways between two standings have an odd number of deeds, None if there are none."""
    check_standings(kind, one, other)
    if not _are_joined(kind, one, other):
        return None
    # Each deed changes the crossings of one layer by one.
    return sum([count_crossings(kind, layer) for layer in one + other]) % 2 == 1


def seam_needs(kind, one, other):
    """Return how many upper and lower deeds there are at each seam at least, or None."""
    check_standings(kind, one, other)
    first, second = wholes_of(kind, one), wholes_of(kind, other)
    if first[0] != second[0]:
        return None
    return _needs(kind, (wholes_ahead_of(kind, one), first), (wholes_ahead_of(kind, other), second))


def bounds(kind, one, other):
    """Return two numbers between which the fewest deeds of a way are, or None."""
    check_standings(kind, one, other)
    first, second = wholes_of(kind, one), wholes_of(kind, other)
    if first[0] != second[0]:
        return None
    ahead, beyond = wholes_ahead_of(kind, one), wholes_ahead_of(kind, other)
    high, low = far_of(kind, one, first), far_of(kind, other, second)
    # Turned over, the wholes of the first layers are those of the last ones, with as many crossings.
    deep, deeper = far_of(kind, one, ahead[::-1]), far_of(kind, other, beyond[::-1])
    needs = sum([upper + lower for upper, lower in _needs(kind, (ahead, first), (beyond, second))])
    return max(abs(high - low), abs(deep - deeper), needs), min(high + low, deep + deeper)


def fewest(kind, one, other):
    """Return the fewest deeds of a way between two standings, None if there is none."""
    check_standings(kind, one, other)
    if not _are_joined(kind, one, other):
        return None
    return fewest_between(kind, one, other)


def _are_joined(kind, one, other):
    """Tell whether two standings have the same whole."""
    return whole_of(kind, one) == whole_of(kind, other)


def _needs(kind, one, other):
    """Return by how many crossings the wholes above and below each seam are apart.

    Of both standings the wholes of the first layers and those of the last ones are told.
    """
    needs = []
    for seam in range(len(one[0]) - 1):
        above = product_of(kind, opposite_of(kind, one[0][seam]), other[0][seam])
        below = product_of(kind, other[1][seam + 1], opposite_of(kind, one[1][seam + 1]))
        needs.append((count_crossings(kind, above), count_crossings(kind, below)))
    return needs
