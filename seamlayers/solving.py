"""Greedy products undone: the orders with which an order comes to a goal."""

from seamlayers.beginwork import rest_of
from seamlayers.checks import check_orders
from seamlayers.orderwork import opposite_of
from seamlayers.solvework import solutions_of, uppermost_of

MOST_SOLUTIONS = 1000


def solvable(kind, order, goal):
    """Tell whether the greedy product of an order and of some other one is a goal."""
    check_orders(kind, order, goal)
    return rest_of(kind, order, goal) is not None


def least_solution(kind, order, goal):
    """Return the solution that lies beneath all others, or None."""
    check_orders(kind, order, goal)
    return rest_of(kind, order, goal)


def solutions(kind, order, goal):
    """Return all orders the greedy product with which is a goal, in order."""
    check_orders(kind, order, goal)
    return sorted([list(found) for found in solutions_of(kind, order, goal, MOST_SOLUTIONS)])


def how_many_solutions(kind, order, goal):
    """Return how many orders there are the greedy product with which is a goal."""
    check_orders(kind, order, goal)
    return len(solutions_of(kind, order, goal, None))


def greatest_solutions(kind, order, goal):
    """Return the solutions that lie beneath no other one, in order."""
    check_orders(kind, order, goal)
    found = solutions_of(kind, order, goal, MOST_SOLUTIONS)
    return sorted([list(upper) for upper in uppermost_of(kind, found)])


def solutions_ahead(kind, order, goal):
    """Return all orders whose greedy product with an order behind them is a goal, in order."""
    check_orders(kind, order, goal)
    flipped = solutions_of(kind, opposite_of(kind, order), opposite_of(kind, goal), MOST_SOLUTIONS)
    return sorted([opposite_of(kind, list(found)) for found in flipped])
