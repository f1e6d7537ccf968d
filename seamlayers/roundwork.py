"""Rounds of two ring orders, and the least order that both begin if they have none, without checks.

Numbers that have the same rests by the size are crossed alike. So it is kept in a square
table how far numbers with one rest rise to the furthest number with another rest that one
of the two orders crosses with them, 0 if there is none.
"""

from seamlayers.orderwork import opposite_of


def least_rise(size, low, rest):
    """Return by how much the next number with a rest is greater than a number with another rest."""
    return (rest - low) % size


def rises_of(kind, one, other):
    """Return the table of the furthest rises that one of two orders crosses."""
    size = kind.size()
    rises = [[0] * size for _ in range(size)]
    for flipped in (opposite_of(kind, one), opposite_of(kind, other)):
        for low in range(size):
            for rest in range(size):
                rise = least_rise(size, low, rest)
                # The next number with the rest stands ahead of all further ones.
                ahead = flipped[low] - (flipped[rest] + low + rise - rest)
                if ahead > 0:
                    rises[low][rest] = max(rises[low][rest], rise + (ahead - 1) // size * size)
    return rises


def least_ring_on(kind, one, other):
    """Return the least of the ring orders that two orders begin, or None."""
    size = kind.size()
    rises = _with_sums(rises_of(kind, one, other))
    if any([rises[rest][rest] for rest in range(size)]):
        return None
    many = [[_many_crossed(size, low, rest, rises[low][rest]) for rest in range(size)] for low in range(size)]
    # Each number stands behind the greater ones that are crossed with it, and ahead of the lesser ones.
    places = [at + sum(many[at]) - sum([many[low][at] for low in range(size)]) for at in range(size)]
    return opposite_of(kind, places)


def _with_sums(rises):
    """Return the table of the furthest rises that come of those of a table, one behind the other."""
    size = len(rises)
    sums = [list(line) for line in rises]
    for middle in range(size):
        for low in range(size):
            for rest in range(size):
                if sums[low][middle] and sums[middle][rest]:
                    sums[low][rest] = max(sums[low][rest], sums[low][middle] + sums[middle][rest])
    return sums


def _many_crossed(size, low, rest, rise):
    """Return how many numbers with a rest lie above a number up to its furthest rise."""
    return (rise - least_rise(size, low, rest)) // size + 1 if rise else 0


def any_round(kind, one, other):
    """Return a round of two ring orders, or None."""
    rises = rises_of(kind, one, other)
    left = _rising_on(rises)
    if not left:
        return None
    walked = [left[0]]
    while walked[-1] not in walked[:-1]:
        walked.append([rest for rest in left if rises[walked[-1]][rest]][0])
    rests = walked[walked.index(walked[-1]):]
    numbers = rests[:1]
    for at in range(1, len(rests)):
        numbers.append(numbers[-1] + least_rise(kind.size(), rests[at - 1], rests[at]))
    return numbers


def _rising_on(rises):
    """Return the rests from which rises lead on without end."""
    left = list(range(len(rises)))
    while left:
        on = [low for low in left if any([rises[low][rest] for rest in left])]
        if len(on) == len(left):
            return left
        left = on
    return left


def tells_round(kind, one, other, value):
    """Tell whether rising whole numbers are a round of two ring orders."""
    size = kind.size()
    if len(value) < 2 or (value[-1] - value[0]) % size != 0:
        return False
    rises = rises_of(kind, one, other)
    for at in range(1, len(value)):
        low, high = value[at - 1], value[at]
        if not high - low <= rises[low % size][high % size]:
            return False
    return True
