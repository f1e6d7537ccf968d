"""The kinds of orders, and how two of their steps stand to one another.

The checks of a kind and of a step stand here, because `wait` needs them and
because whatever checks more imports this file.
"""

from seamlayers.errors import InvalidKind, InvalidNumber
from seamlayers.values import is_whole

SIZES = {"plain": (1, 7), "mirror": (1, 5), "ring": (2, 5)}


class Kind:
    """A kind of orders: its name and its size."""

    def __init__(self, name, size):
        if not (isinstance(name, str) and name in SIZES):
            raise InvalidKind(name)
        least, most = SIZES[name]
        if not (is_whole(size) and least <= size <= most):
            raise InvalidNumber(size)
        self._name = name
        self._size = size

    def __eq__(self, other):
        return isinstance(other, Kind) and self._name == other._name and self._size == other._size

    def name(self):
        """Return the name of the kind."""
        return self._name

    def size(self):
        """Return the size of the kind."""
        return self._size

    def steps(self):
        """Return how many steps the kind has."""
        if self._name == "plain":
            return self._size - 1
        return self._size

    def start(self):
        """Return the order that is crossed at no step."""
        if self._name == "mirror":
            return list(range(1, self._size + 1))
        return list(range(self._size))


def check_kind(kind):
    """Refuse what is no kind."""
    if not isinstance(kind, Kind):
        raise InvalidKind(kind)


def is_step(kind, value):
    """Tell whether a value is a step of a kind."""
    return is_whole(value) and 0 <= value < kind.steps()


def check_step(kind, step):
    """Refuse what is no step of a kind."""
    if not is_step(kind, step):
        raise InvalidNumber(step)


def wait_of(kind, one, other):
    """Return what `wait` tells of two unlike steps, unchecked."""
    apart = abs(one - other)
    if kind.name() == "mirror" and one + other == 1:
        return 4
    if kind.name() == "ring":
        if kind.size() == 2:
            return None
        # The last step of a ring is a neighbour of the step 0.
        apart = min(apart, kind.size() - apart)
    return 3 if apart == 1 else 2


def wait(kind, one, other):
    """Return after how many exchanges by turns both beginnings come to the same order."""
    check_kind(kind)
    check_step(kind, one)
    check_step(kind, other)
    if one == other:
        raise InvalidNumber(other)
    return wait_of(kind, one, other)
