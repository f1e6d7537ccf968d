"""Standings with one whole, counted over the greedy products of their first layers, without checks.

The greedy product of the first layers begins the whole, and each layer is beneath it. So all
that is needed is, for each order that begins the whole, what it becomes by each order beneath:
a line of numbers. An order beneath is told by its place in a list, -1 is for all others.
"""

from seamlayers.orderwork import after_step, falls_of, is_crossed, opposite_of


def gains_ahead(kind, orders):
    """Return, for each step, the places of what the orders of a list become by gaining it ahead."""
    # To gain a step ahead is to gain it on the side of opposites.
    flipped = [opposite_of(kind, order) for order in orders]
    places = {tuple(here): at for at, here in enumerate(flipped)}
    lines = []
    for step in range(kind.steps()):
        line = []
        for at, here in enumerate(flipped):
            crossed = is_crossed(kind, here, step)
            line.append(at if crossed else places.get(tuple(after_step(kind, here, step)), -1))
        # What is not beneath stays so: this is the item that a place of -1 tells.
        lines.append(line + [-1])
    return lines


def product_lines(kind, begun, orders):
    """Return, for each of some orders, the numbers among them of its greedy products with the orders of a list.

    The start is the first of them, and of each other one they hold one that a fall leads to, ahead of it.
    """
    numbers = {tuple(here): number for number, here in enumerate(begun)}
    ahead = gains_ahead(kind, orders)
    lines = [[numbers.get(tuple(order), -1) for order in orders] + [-1]]
    for here in begun[1:]:
        # Its last step is gained by what stands behind it, before the rest of it is.
        fall = falls_of(kind, here)[0]
        line = lines[numbers[tuple(after_step(kind, here, fall))]]
        lines.append([line[place] for place in ahead[fall]])
    return [line[:-1] for line in lines]


def powers_counted(line, crossings, gone_on):
    """Return the tuples (number, power, times) of a line: what is worked with in place of `counted` for sums of powers.

    The power is the crossings of the order beneath, or, if those of the numbers are told as `gone_on`, twice these
    less the crossings of the order beneath.
    """
    found = {}
    for place, number in enumerate(line):
        if number >= 0:
            power = crossings[place] if gone_on is None else 2 * gone_on[number] - crossings[place]
            found[number, power] = found.get((number, power), 0) + 1
    return [(number, power, times) for (number, power), times in found.items()]


def powers_after(rows, layers, width):
    """Return how often the first order becomes the last by layers with each sum of powers.

    All these numbers stand in one, each in so many bits of it.
    """
    packed = [0] * (len(rows) - 1) + [1]
    for _ in range(layers):
        packed = [sum([times * packed[number] << width * power for number, power, times in row]) for row in rows]
    return packed[0]


def unpacked(packed, width):
    """Return the numbers that stand in one, each in so many bits of it, up to the last one that is not 0."""
    told = []
    while packed:
        told.append(packed & ((1 << width) - 1))
        packed = packed >> width
    return told
