"""Greedy products of orders, with however many crossings, without checks."""

from seamlayers.orderwork import after_step, exchange_in, is_crossed, opposite_of, order_in, spread_of
from seamlayers.rowwork import first_least


def after_gain(kind, order, step):
    """Return what an order becomes by gaining a step."""
    if is_crossed(kind, order, step):
        return list(order)
    return after_step(kind, order, step)


def after_gain_ahead(kind, order, step):
    """Return what an order becomes by gaining a step ahead."""
    return opposite_of(kind, after_gain(kind, opposite_of(kind, order), step))


def after_row(kind, order, row):
    """Return what an order becomes by gaining the steps of a row."""
    name, spread = kind.name(), spread_of(kind, order)
    for step in row:
        if spread[step] < spread[step + 1]:
            exchange_in(name, spread, step)
    return order_in(kind, spread)


def greedy_of(kind, one, other):
    """Return the greedy product of two orders, a new list."""
    return after_row(kind, one, first_least(kind, other))


def kept_of(kind, row):
    """Return the places of the steps by which the start changes as it gains those of a row."""
    name, spread = kind.name(), spread_of(kind, kind.start())
    kept = []
    for at, step in enumerate(row):
        if spread[step] < spread[step + 1]:
            kept.append(at)
            exchange_in(name, spread, step)
    return kept
