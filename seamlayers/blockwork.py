"""Blocks of steps, and what they make, without checks."""

from math import factorial

from seamlayers.kinds import is_step
from seamlayers.orderwork import after_step, is_crossed
from seamlayers.rowwork import first_least
from seamlayers.values import is_rising


def is_told_block(kind, value):
    """Tell whether a value is a block of a kind."""
    return isinstance(value, list) and all([is_step(kind, step) for step in value]) and is_rising(value)


def is_endless(kind, block):
    """Tell whether the steps of a block make orders without end."""
    return kind.name() == "ring" and len(block) == kind.steps()


def greatest_made(kind, block):
    """Return the greatest order that steps of a block make, or None."""
    if is_endless(kind, block):
        return None
    order = kind.start()
    open_steps = block
    while open_steps:
        order = after_step(kind, order, open_steps[0])
        open_steps = [step for step in block if not is_crossed(kind, order, step)]
    return order


def block_of(kind, order):
    """Return the block of the steps of the least rows that make an order."""
    return sorted(set(first_least(kind, order)))


def neighbours_joined(kind, block):
    """Return the longest stretches of neighbouring steps of a block."""
    stretches = []
    for step in block:
        if stretches and stretches[-1][-1] == step - 1:
            stretches[-1].append(step)
        else:
            stretches.append([step])
    # The last step of a ring is a neighbour of the step 0.
    if kind.name() == "ring" and len(stretches) > 1 and block[0] == 0 and block[-1] == kind.steps() - 1:
        ahead = stretches.pop()
        stretches[0] = ahead + stretches[0]
    return stretches


def many_made(kind, block):
    """Return how many orders the steps of a block make, or None."""
    if is_endless(kind, block):
        return None
    many = 1
    for stretch in neighbours_joined(kind, block):
        length = len(stretch)
        if kind.name() == "mirror" and stretch[0] == 0:
            many *= factorial(length) << length
        else:
            many *= factorial(length + 1)
    return many
