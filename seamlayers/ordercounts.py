"""How many orders of a kind have so many crossings, without checks."""


def times_ones(counts, width):
    """Return the product of a row of counts and of 1 + x + .. + x ** (width - 1)."""
    more = [0] * (len(counts) + width - 1)
    for at, many in enumerate(counts):
        for shift in range(width):
            more[at + shift] += many
    return more


def over_gap(counts, gap):
    """Return a row of counts divided by 1 - x ** gap, as far as the row goes."""
    sums = list(counts)
    for at in range(gap, len(sums)):
        sums[at] += sums[at - gap]
    return sums


def counts_up_to(kind, crossings):
    """Return the counts for all numbers of crossings, for rings those up to a number."""
    counts = [1]
    for factor in range(1, kind.size() + 1):
        counts = times_ones(counts, 2 * factor if kind.name() == "mirror" else factor)
    if kind.name() == "ring":
        counts = counts + [0] * (crossings + 1 - len(counts))
        for gap in range(1, kind.size()):
            counts = over_gap(counts, gap)
    return counts


def many_with(kind, crossings):
    """Return how many orders have just so many crossings."""
    counts = counts_up_to(kind, crossings)
    return counts[crossings] if crossings < len(counts) else 0
