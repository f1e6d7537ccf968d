"""Turns of rows: stretches of two steps by turns, put in the place of one another, without checks."""

from seamlayers.kinds import wait_of


def length_of_turn(kind, row, at):
    """Return how long the stretch is that can be turned at a place of a row, 0 if there is none."""
    if not 0 <= at < len(row) - 1 or row[at] == row[at + 1]:
        return 0
    length = wait_of(kind, row[at], row[at + 1])
    if length is None or at + length > len(row):
        return 0
    for place in range(at + 2, at + length):
        if row[place] != row[place - 2]:
            return 0
    return length


def turned_at(row, at, length):
    """Return a row in which each step of a stretch by turns is the other one."""
    return row[:at] + [row[at + 1]] + row[at:at + length - 1] + row[at + length:]


def ended_with(kind, row, end, step):
    """Lead the first steps of a row, up to an end, to a least row that ends with a step.

    They must be a least row, and the step a fall of the order that they make.
    Return the places of the turns that lead there, and the whole row behind them.
    """
    last = row[end - 1]
    if last == step:
        return [], row
    places = []
    length = wait_of(kind, step, last)
    # Both are falls, so a least row ends with both by turns: this one is led there from the back.
    for back in range(1, length):
        more, row = ended_with(kind, row, end - back, step if back % 2 == 1 else last)
        places = places + more
    return places + [end - length], turned_at(row, end - length, length)
