"""How far standings are from the uppermost one, and which deeds lead nearer to it, without checks.

Where many standings are gone through, they are told by the numbers of their layers. Only the
wholes of the last layers are needed beside them: their numbers are handed on, with that of the
start, the whole of no layer, behind them. A deed changes at most one of them.
"""

from seamlayers.errors import TooMany
from seamlayers.orderwork import count_crossings
from seamlayers.seamwork import Seams
from seamlayers.standwork import turned_over, wholes_of

MOST_STANDINGS = 500


def far_of(kind, layers, wholes):
    """Return the fewest deeds that lead to the uppermost standing, the wholes of the last layers being told."""
    told = [count_crossings(kind, whole) for whole in wholes]
    return 2 * sum(told) - told[0] - sum([count_crossings(kind, layer) for layer in layers])


def far_up(kind, layers):
    """Return the fewest deeds that lead to the uppermost standing."""
    return far_of(kind, layers, wholes_of(kind, layers))


def far_down(kind, layers):
    """Return the fewest deeds that lead to the lowermost standing."""
    return far_up(kind, turned_over(kind, layers))


def numbers_and_wholes(seams, kind, layers):
    """Return the numbers of the layers, and of the wholes of all of them, of all but the first, .., of none."""
    return seams.numbers_of(layers), seams.numbers_of(wholes_of(kind, layers) + [kind.start()])


def nearer_ones(seams, here, wholes):
    """Return the deeds, in order, behind which the uppermost standing is nearer: tuples (deed, standing, wholes)."""
    told = []
    for seam in range(len(here) - 1):
        for side, step, upper, lower, whole in seams.nearer_at(here[seam], here[seam + 1], wholes[seam + 2]):
            there = here[:seam] + (upper, lower) + here[seam + 2:]
            told.append(((seam, side, step), there, wholes[:seam + 1] + (whole,) + wholes[seam + 2:]))
    return told


def first_way_up(kind, layers):
    """Return the first, in order, of the shortest ways up."""
    seams = Seams(kind)
    here, wholes = numbers_and_wholes(seams, kind, layers)
    deeds = []
    nearer = nearer_ones(seams, here, wholes)
    while nearer:
        deed, here, wholes = nearer[0]
        deeds.append(deed)
        nearer = nearer_ones(seams, here, wholes)
    return deeds


def ways_nearer(kind, layers):
    """Return the numbers of the layers, and for each standing on the shortest ways up the tuples (deed, one behind it).

    The tuples are in order; the standings nearer to the uppermost one stand behind the others.
    """
    seams = Seams(kind)
    begin, wholes = numbers_and_wholes(seams, kind, layers)
    ways = {}
    level = {begin: wholes}
    many = 1
    while level:
        found = {}
        for here, behind in level.items():
            nearer = nearer_ones(seams, here, behind)
            ways[here] = [(deed, there) for deed, there, _ in nearer]
            for _, there, further in nearer:
                found[there] = further
            if many + len(found) > MOST_STANDINGS:
                raise TooMany(MOST_STANDINGS + 1)
        many += len(found)
        level = found
    return begin, ways


def counts_of(ways):
    """Return for each standing of `ways_nearer` how many shortest ways lead up from it."""
    counts = {}
    for here in reversed(list(ways)):
        counts[here] = sum([counts[there] for _, there in ways[here]]) if ways[here] else 1
    return counts


def fewest_between(kind, one, other):
    """Return the fewest deeds of a way between two joined standings."""
    seams = Seams(kind)
    begin, goal = seams.numbers_of(one), seams.numbers_of(other)
    if begin == goal:
        return 0
    # Each deed is undone by itself: so the goal is one deed behind all that are one deed behind it.
    ahead = {}
    _one_deed_on(seams, [goal], ahead)
    known = {begin: True}
    level, many = [begin], 1
    # All that are known by now are led to by fewer deeds than the goal.
    while len(known) <= MOST_STANDINGS:
        if [here for here in level if here in ahead]:
            return many
        level = _one_deed_on(seams, level, known)
        many += 1
    raise TooMany(MOST_STANDINGS + 1)


def _one_deed_on(seams, level, known):
    """Return the standings behind one deed from those of a list that were not known, and make them known."""
    found = []
    for here in level:
        for seam in range(len(here) - 1):
            for _, _, upper, lower in seams.deeds_at(here[seam], here[seam + 1]):
                there = here[:seam] + (upper, lower) + here[seam + 2:]
                if there not in known:
                    known[there] = True
                    found.append(there)
    return found
