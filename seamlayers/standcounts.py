"""How many standings have an order as their whole, for every number of layers."""

from seamlayers.beneathwork import all_beneath
from seamlayers.blockwork import many_made
from seamlayers.checks import check_count, check_orders
from seamlayers.countwork import powers_after, powers_counted, product_lines, unpacked
from seamlayers.errors import InvalidNumber
from seamlayers.kinds import check_kind
from seamlayers.machinework import counted, first_counts, lines_between, most_in_chains, one_more
from seamlayers.orderwork import count_crossings, falls_of, opposite_of
from seamlayers.powerwork import powers_of, rest_after, rule_of
from seamlayers.values import is_whole

MOST_MODULUS = 1000000


def how_many_standings(kind, layers, order):
    """Return how many standings of so many layers have an order as their whole."""
    _check_layers(kind, layers, order)
    begun, _ = lines_between(kind, kind.start(), order, None)
    return first_counts(_rows_of(kind, begun, order), layers)[-1]


def standings_rest(kind, layers, order, modulus):
    """Return the rest, by a modulus, of how many standings of so many layers have an order as their whole."""
    _check_layers(kind, layers, order)
    if not (is_whole(modulus) and 1 <= modulus <= MOST_MODULUS):
        raise InvalidNumber(modulus)
    numbers, powers = _numbers_and_powers(kind, order)
    return rest_after(numbers, rule_of(powers), layers, modulus)


def how_many_within(kind, layers, order):
    """Return how many standings of so many layers have a whole that is beneath an order."""
    _check_layers(kind, layers, order)
    beneath = [list(here) for here, _ in sorted(all_beneath(kind, order).items(), key=lambda told: told[1])]
    rows = [counted(line) for line in product_lines(kind, beneath, beneath)]
    counts = [1] * len(rows)
    for _ in range(layers):
        counts = one_more(rows, counts)
    return counts[0]


def standing_powers(kind, order):
    """Return the bases, with their fractions, of which the numbers of standings of an order are sums."""
    check_orders(kind, order)
    _, powers = _numbers_and_powers(kind, order)
    return powers


def standing_rule(kind, order):
    """Return the first numbers of standings of an order, and the shortest rule by which all others come of them."""
    check_orders(kind, order)
    numbers, powers = _numbers_and_powers(kind, order)
    rule = rule_of(powers)
    return numbers[:len(rule)], rule


def standings_by_crossings(kind, layers, order):
    """Return how many of the standings of an order have 0, 1, 2, .. crossings in all their layers."""
    _check_layers(kind, layers, order)
    return _by_powers(kind, layers, order, False)


def standings_by_deeds(kind, layers, order):
    """Return how many of the standings of an order are 0, 1, 2, .. deeds from the uppermost one at least."""
    _check_layers(kind, layers, order)
    # Far above hangs on the wholes of the last layers, and turned over these are the first ones.
    told = _by_powers(kind, layers, opposite_of(kind, order), True)
    # The whole of all layers counts just once.
    return told[count_crossings(kind, order):]


def _check_layers(kind, layers, order):
    """Refuse what is no kind, no number of layers, no order."""
    check_kind(kind)
    check_count(layers)
    check_orders(kind, order)


def _rows_of(kind, begun, order):
    """Return, for each order that begins an order, the tuples (number of another one, how often it becomes it)."""
    return [counted(line) for line in product_lines(kind, begun, list(all_beneath(kind, order)))]


def _numbers_and_powers(kind, order):
    """Return how many standings of 0, 1, 2, .. layers there are, and the bases with their fractions."""
    begun, lines = lines_between(kind, kind.start(), order, None)
    # An order becomes itself as often as its base tells: so a base comes as often at most as in one chain.
    bases = [many_made(kind, falls_of(kind, here)) for here in begun]
    most = most_in_chains(lines, bases)
    numbers = first_counts(_rows_of(kind, begun, order), sum(list(most.values())) - 1)
    return numbers, powers_of(numbers, most)


def _by_powers(kind, layers, order, gone_on):
    """Return how many standings of an order have which sum of crossings.

    It is the sum of those of all layers, or, if told so, of twice those of the wholes of the first layers, less those.
    """
    begun, _ = lines_between(kind, kind.start(), order, None)
    beneath = all_beneath(kind, order)
    crossings = list(beneath.values())
    numbers = [count_crossings(kind, here) for here in begun] if gone_on else None
    rows = [powers_counted(line, crossings, numbers) for line in product_lines(kind, begun, list(beneath))]
    # So many bits hold each of the numbers: together they are less than this.
    width = len(crossings).bit_length() * layers + 1
    return unpacked(powers_after(rows, layers, width), width)
