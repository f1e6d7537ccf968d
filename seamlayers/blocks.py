"""Blocks: lists of unlike steps, and the orders that they make."""

from seamlayers.blockwork import block_of, greatest_made, many_made
from seamlayers.checks import check_block, check_orders
from seamlayers.kinds import check_kind
from seamlayers.orderwork import after_step, after_step_ahead, is_crossed


def greatest_in(kind, block):
    """Return the greatest order that steps of a block make, or None."""
    check_kind(kind)
    check_block(kind, block)
    return greatest_made(kind, block)


def steps_in(kind, order):
    """Return the block of the steps that stand in the least rows that make an order."""
    check_orders(kind, order)
    return block_of(kind, order)


def parted(kind, order, block):
    """Return the two orders, free of falls of a block and made by it, whose product is an order."""
    check_orders(kind, order)
    check_block(kind, block)
    free, inner = list(order), kind.start()
    crossed = [step for step in block if is_crossed(kind, free, step)]
    while crossed:
        free = after_step(kind, free, crossed[0])
        inner = after_step_ahead(kind, inner, crossed[0])
        crossed = [step for step in block if is_crossed(kind, free, step)]
    return free, inner


def how_many_in(kind, block):
    """Return how many orders the steps of a block make, or None."""
    check_kind(kind)
    check_block(kind, block)
    return many_made(kind, block)
