"""The words of the document on crossed pairs, beginnings and solutions in the plainest way, to compare with."""

from tests import reference, standreference


def numbers_of(kind, far=0):
    """The numbers of the long rows of a kind; of a ring those from `-far` on, and as far behind the size."""
    size = kind.size()
    if kind.name() == "ring":
        return list(range(-far, size + far))
    return list(range(size)) if kind.name() == "plain" else [at for at in range(-size, size + 1) if at]


def place_of(kind, order, number):
    """A number that tells how far behind a number stands in the long row."""
    if kind.name() == "plain":
        return order.index(number)
    if kind.name() == "mirror":
        return ([-item for item in order[::-1]] + order).index(number)
    size = kind.size()
    at = [place for place in range(size) if (order[place] - number) % size == 0][0]
    return at + number - order[at]


def is_number(kind, value):
    return type(value) is int and (kind.name() == "ring" or value in numbers_of(kind))


def crossed(kind, order, low, high):
    return place_of(kind, order, high) < place_of(kind, order, low)


def pairs_of(kind, order, far=70):
    """The pairs of numbers that are crossed by an order; of a ring those with the low one below the size."""
    pairs = [(low, high) for low in numbers_of(kind) for high in numbers_of(kind, far) if low < high]
    return {pair for pair in pairs if crossed(kind, order, *pair)}


BEGUN = {}


def begun_by(kind, order):
    """The set of the orders, as tuples, that begin an order: those that taking falls off leads to."""
    told = kind.name(), tuple(order)
    if told not in BEGUN:
        found = level = {tuple(order)}
        while level:
            level = {tuple(reference.step_done(kind, list(one), step))
                     for one in level for step in reference.falls_of(kind, list(one))}
            found = found | level
        BEGUN[told] = found
    return BEGUN[told]


def ended_by(kind, order):
    return {tuple(standreference.turned(kind, list(one)))
            for one in begun_by(kind, standreference.turned(kind, order))}


MANY = {}


def many(kind, order):
    told = kind.name(), tuple(order)
    if told not in MANY:
        MANY[told] = len(reference.down(kind, list(order)))
    return MANY[told]


def product(kind, one, other):
    return reference.row_done(kind, list(one), reference.down(kind, list(other)))


def rest(kind, one, other):
    """The rest behind an order that begins another one."""
    return product(kind, standreference.turned(kind, list(one)), other)


def rest_ahead(kind, one, other):
    return product(kind, other, standreference.turned(kind, list(one)))


def is_round(kind, one, other, value):
    """Whether a value is a round, its numbers at most so far apart that places of them can be told."""
    if kind.name() != "ring" or type(value) is not list or len(value) < 2:
        return False
    if not all(type(number) is int for number in value):
        return False
    if value[-1] <= value[0] or (value[-1] - value[0]) % kind.size():
        return False
    return all(low < high and (crossed(kind, one, low, high) or crossed(kind, other, low, high))
               for low, high in zip(value, value[1:]))


def has_round(kind, one, other):
    """Whether numbers that rise lead on, from pair to pair that is crossed, to more numbers than there are rests."""
    size = kind.size()
    crossed_pairs = pairs_of(kind, one) | pairs_of(kind, other)
    ends = set(range(size))
    for _ in range(size):
        ends = {high % size for low, high in crossed_pairs if low in ends}
    return bool(ends)


def solutions(kind, order, goal):
    """All orders beneath the goal with which the greedy product of an order is the goal."""
    beneath = reference.made_by_parts(kind, reference.down(kind, goal))
    return sorted(list(one) for one in beneath if standreference.greedy(kind, order, list(one)) == goal)
