"""The orders between two orders, and where steps lead from each of them, without checks.

They are numbered as they are found if the steps are followed from the first one on: so those
with more crossings have the greater numbers, and the last one is the order that all begin.
"""

from seamlayers.beginwork import rest_of
from seamlayers.errors import TooMany
from seamlayers.orderwork import after_step, is_crossed, opposite_of


def lines_between(kind, one, order, most):
    """Return the orders that an order begins and that begin another one, and what steps make of each.

    The second list has, for each of the orders, what it becomes by gaining each of the steps: the number of one
    of them, or -1. There may be however many if `most` is None; both lists are empty if there are none.
    """
    behind = rest_of(kind, one, order)
    if behind is None:
        return [], []
    orders, lefts = [list(one)], [opposite_of(kind, behind)]
    numbers = {tuple(one): 0}
    lines = []
    while len(lines) < len(orders):
        here, left = orders[len(lines)], lefts[len(lines)]
        line = []
        for step in range(kind.steps()):
            if is_crossed(kind, here, step):
                line.append(len(lines))
            elif is_crossed(kind, left, step):
                there = after_step(kind, here, step)
                if tuple(there) not in numbers:
                    numbers[tuple(there)] = len(orders)
                    orders.append(there)
                    lefts.append(after_step(kind, left, step))
                line.append(numbers[tuple(there)])
            else:
                line.append(-1)
        lines.append(line)
        if most is not None and len(orders) > most:
            raise TooMany(most + 1)
    return orders, lines


def counted(line):
    """Return the tuples (number, how often it stands there) of the numbers of a line that are not -1."""
    found = {}
    for number in line:
        if number >= 0:
            found[number] = found.get(number, 0) + 1
    return list(found.items())


def one_more(rows, counts):
    """Return for each row of tuples (number, times) the sum of so many times the counts with these numbers."""
    return [sum([times * counts[number] for number, times in row]) for row in rows]


def first_counts(rows, times):
    """Return how often the first order becomes the last one by going on 0, 1, 2, .. times, up to so many.

    The rows tell, for each order, as `counted` does, how often it becomes which by going on once.
    """
    counts = [0] * (len(rows) - 1) + [1]
    told = [counts[0]]
    for _ in range(times):
        counts = one_more(rows, counts)
        told.append(counts[0])
    return told


def most_in_chains(lines, labels):
    """Return for each label how many orders with it stand at most in one chain from the first order to the last.

    A chain goes on by steps, each with one crossing more. The lines are those of `lines_between`; the labels
    stand in the same order.
    """
    most = {}
    # What an order becomes has the greater number: so it is worked out ahead of the order.
    for at in range(len(lines) - 1, -1, -1):
        here = {}
        for number in lines[at]:
            if number > at:
                for label, many in most[number].items():
                    here[label] = max(many, here.get(label, 0))
        here[labels[at]] = here.get(labels[at], 0) + 1
        most[at] = here
    return most[0]
