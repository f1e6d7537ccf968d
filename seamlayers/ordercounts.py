"""How many orders of a kind have so many crossings, without checks."""

from math import comb


def times_ones(counts, width):
    """Return the product of a row of counts and of 1 + x + .. + x ** (width - 1)."""
    more = [0] * (len(counts) + width - 1)
    for at, many in enumerate(counts):
        for shift in range(width):
            more[at + shift] += many
    return more


def closed_counts(kind):
    """Return the counts of a plain or mirror kind for all numbers of crossings that there are."""
    counts = [1]
    for factor in range(1, kind.size() + 1):
        counts = times_ones(counts, 2 * factor if kind.name() == "mirror" else factor)
    return counts


def many_with(kind, crossings):
    """Return how many orders have just so many crossings."""
    if kind.name() == "ring":
        # The divided product comes to (1 - x ** size) / (1 - x) ** size.
        size = kind.size()
        return comb(crossings + size - 1, size - 1) - comb(crossings - 1, size - 1) if crossings else 1
    counts = closed_counts(kind)
    return counts[crossings] if crossings < len(counts) else 0
