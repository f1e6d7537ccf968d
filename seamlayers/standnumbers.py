"""Standings with one whole by their number, in order."""

from seamlayers.beneathwork import all_beneath
from seamlayers.checks import check_orders, check_standing
from seamlayers.countwork import product_lines
from seamlayers.errors import InvalidNumber
from seamlayers.kinds import check_kind
from seamlayers.machinework import counted, lines_between, one_more
from seamlayers.standwork import MOST_LAYERS, whole_of
from seamlayers.values import is_count


def standing_number(kind, standing):
    """Return how many standings with as many layers and the same whole are ahead of a standing."""
    check_standing(kind, standing)
    beneath, lines, counts = _tables(kind, whole_of(kind, standing), len(standing))
    return _number_of(beneath, lines, counts, standing)


def standing_numbered(kind, layers, order, number):
    """Return the standing with an order as its whole ahead of which just so many others with as many layers are."""
    check_kind(kind)
    if not (is_count(layers) and 1 <= layers <= MOST_LAYERS):
        raise InvalidNumber(layers)
    check_orders(kind, order)
    beneath, lines, counts = _tables(kind, order, layers)
    if not (is_count(number) and number < counts[layers][0]):
        raise InvalidNumber(number)
    return _numbered(beneath, lines, counts, number)


def next_standing(kind, standing):
    """Return the first standing behind a standing that has as many layers and the same whole, or None."""
    check_standing(kind, standing)
    layers = len(standing)
    beneath, lines, counts = _tables(kind, whole_of(kind, standing), layers)
    number = _number_of(beneath, lines, counts, standing) + 1
    return _numbered(beneath, lines, counts, number) if number < counts[layers][0] else None


def _tables(kind, order, layers):
    """Return the orders beneath an order, as tuples, in order, what the beginnings become by them, and how often.

    The last table tells, for each number of further layers up to those told, how often an order that begins becomes
    the whole by them: for each of these orders, and 0 behind all for what is none of them.
    """
    beneath = sorted(all_beneath(kind, order))
    begun, _ = lines_between(kind, kind.start(), order, None)
    lines = product_lines(kind, begun, beneath)
    rows = [counted(line) for line in lines]
    counts = [[0] * (len(begun) - 1) + [1, 0]]
    for _ in range(layers):
        counts.append(one_more(rows, counts[-1]) + [0])
    return beneath, lines, counts


def _number_of(beneath, lines, counts, standing):
    """Return how many standings are ahead of a standing."""
    number, here = 0, 0
    for at, layer in enumerate(standing):
        place = beneath.index(tuple(layer))
        further = counts[len(standing) - 1 - at]
        number += sum([further[there] for there in lines[here][:place]])
        here = lines[here][place]
    return number


def _numbered(beneath, lines, counts, number):
    """Return the standing ahead of which just so many are."""
    layers, here = [], 0
    for further in reversed(counts[:-1]):
        for place, there in enumerate(lines[here]):
            if number < further[there]:
                layers.append(list(beneath[place]))
                here = there
                break
            number -= further[there]
    return layers
