"""Deeds at seams for many standings at once, without checks.

Layers are told by numbers here, and standings by tuples of them. What is asked of a layer,
or of the two layers at a seam, is worked out once: standings that deeds lead to one another
have the same ones again and again.
"""

from seamlayers.greedywork import greedy_of
from seamlayers.orderwork import after_step, falls_of, opposite_of


class Seams:
    """The layers that are met, by their numbers, and what deeds make of them."""

    def __init__(self, kind):
        self._kind = kind
        self._numbers = {}
        # By their numbers: the orders, their opposites, falls and heads, and what steps make of them on both sides.
        self._orders = []
        self._flipped = []
        self._falls = []
        self._heads = []
        self._behind = {}
        self._ahead = {}
        self._wholes = {}
        self._nearer = {}
        self._deeds = {}

    def number_of(self, order):
        """Return the number of an order, a new one if it was not met by now."""
        key = tuple(order)
        if key not in self._numbers:
            flipped = opposite_of(self._kind, order)
            self._numbers[key] = len(self._orders)
            self._orders.append(order)
            self._flipped.append(flipped)
            self._falls.append(falls_of(self._kind, order))
            self._heads.append(falls_of(self._kind, flipped))
        return self._numbers[key]

    def numbers_of(self, orders):
        """Return the numbers of orders as a tuple."""
        return tuple([self.number_of(order) for order in orders])

    def deeds_at(self, upper, lower):
        """Return, for the deeds at two layers, in order, tuples (side, step, upper layer behind it, lower layer)."""
        if (upper, lower) not in self._deeds:
            told = [("lower", step, upper, self._after_ahead(lower, step)) for step in self._falls[upper]]
            told += [("upper", step, self._after(upper, step), lower) for step in self._heads[lower]]
            self._deeds[upper, lower] = told
        return self._deeds[upper, lower]

    def nearer_at(self, upper, lower, below):
        """Return tuples as `deeds_at`, of the deeds that lead nearer to the uppermost standing.

        Behind them stands the whole from the lower layer on; it is told what the whole of all layers below it is.
        """
        falls = self._falls[upper]
        told = []
        for step in falls:
            if (lower, below, step) not in self._nearer:
                self._nearer[lower, below, step] = self._behind_nearer(lower, below, step)
            behind = self._nearer[lower, below, step]
            if behind is not None:
                told.append(("lower", step, upper, *behind))
        # By an upper deed no whole changes: so it leads nearer if the upper layer gets greater.
        further = [step for step in self._heads[lower] if step not in falls]
        if further:
            whole = self._whole(lower, below)
            told += [("upper", step, self._after(upper, step), lower, whole) for step in further]
        return told

    def _behind_nearer(self, lower, below, step):
        """Return the lower layer behind a lower deed and the whole from it on, None if it doesn't lead nearer."""
        whole = self._whole(lower, below)
        if step in self._heads[lower]:
            # The lower layer gets less, and so must the whole from it on.
            moved = self._after_ahead(lower, step)
            less = self._whole(moved, below)
            return (moved, less) if less != whole else None
        # The lower layer gets greater, and the whole from it on must not.
        return (self._after_ahead(lower, step), whole) if step in self._heads[whole] else None

    def _whole(self, one, other):
        """Return the greedy product of two orders."""
        if (one, other) not in self._wholes:
            whole = greedy_of(self._kind, self._orders[one], self._orders[other])
            self._wholes[one, other] = self.number_of(whole)
        return self._wholes[one, other]

    def _after(self, number, step):
        """Return what comes from an order by a step."""
        if (number, step) not in self._behind:
            self._behind[number, step] = self.number_of(after_step(self._kind, self._orders[number], step))
        return self._behind[number, step]

    def _after_ahead(self, number, step):
        """Return the product of the order that a step makes of the start, and of an order."""
        if (number, step) not in self._ahead:
            # This is the step on the side of opposites.
            moved = opposite_of(self._kind, after_step(self._kind, self._flipped[number], step))
            self._ahead[number, step] = self.number_of(moved)
        return self._ahead[number, step]
