"""What greedy products with an order come to a goal, without checks."""

from seamlayers.beneathwork import exchange_of
from seamlayers.errors import TooMany
from seamlayers.machinework import lines_between
from seamlayers.orderwork import after_step, is_crossed, product_of
from seamlayers.rowwork import crossed_by, first_least


def solutions_of(kind, order, goal, most):
    """Return all orders, as tuples, the greedy product with which is a goal; however many if `most` is None."""
    _, lines = lines_between(kind, order, goal, None)
    goal_number = len(lines) - 1
    found = []
    # Each order is told with the number of the greedy product: this never comes back on the way to the goal.
    level = {tuple(kind.start()): 0} if lines else {}
    while level:
        found.extend([here for here, number in level.items() if number == goal_number])
        if most is not None and len(found) > most:
            raise TooMany(most + 1)
        further = {}
        for here, number in level.items():
            for step, there in enumerate(lines[number]):
                if there >= 0 and not is_crossed(kind, here, step):
                    further[tuple(after_step(kind, here, step))] = there
        level = further
    return found


def uppermost_of(kind, solutions):
    """Return those of all solutions that lie beneath no other one."""
    below = {}
    # What lies between two solutions is one: so it is enough to exchange two numbers.
    for order in solutions:
        for low, high in crossed_by(kind, first_least(kind, order)):
            below[tuple(product_of(kind, exchange_of(kind, low, high), order))] = True
    return [order for order in solutions if order not in below]
