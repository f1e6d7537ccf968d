"""Rows that come from order to order by gaining their steps, counted and numbered."""

from seamlayers.beginwork import MOST_BEGINNINGS, levels_down
from seamlayers.beneathwork import all_beneath, places_of
from seamlayers.checks import check_count, check_orders, check_rows
from seamlayers.errors import InvalidNumber
from seamlayers.greedywork import after_gain, after_row
from seamlayers.machinework import counted, first_counts, lines_between, most_in_chains, one_more
from seamlayers.orderwork import after_step, count_crossings, falls_of, is_crossed
from seamlayers.rowwork import MOST_STEPS, first_least
from seamlayers.values import is_count

MOST_BENEATH = 1000


def how_many_rows(kind, one, order, length):
    """Return how many rows of so many steps come from an order to another one."""
    check_orders(kind, one, order)
    check_count(length)
    levels_down(kind, order, MOST_BEGINNINGS)
    _, lines = lines_between(kind, one, order, None)
    return first_counts([counted(line) for line in lines], length)[-1] if lines else 0


def fall_rule(kind, one, order):
    """Return the tuples (number of falls, how often at most in one chain) that tell the rule of the numbers of rows."""
    check_orders(kind, one, order)
    levels_down(kind, order, MOST_BEGINNINGS)
    orders, lines = lines_between(kind, one, order, None)
    if not lines:
        return []
    most = most_in_chains(lines, [len(falls_of(kind, here)) for here in orders])
    return sorted(most.items())


def first_with(kind, order, length):
    """Return the first row of so many steps that comes from the start to an order, or None."""
    check_orders(kind, order)
    _check_length(length)
    orders, lines = lines_between(kind, kind.start(), order, MOST_BEGINNINGS)
    fars = _fars(kind, orders)
    # The start doesn't stay by any step: all others do by some.
    if length < fars[0] or (fars[0] == 0 and length > 0):
        return None
    return _first_from(lines, fars, 0, length)


def row_number(kind, row):
    """Return how many rows of as many steps that come from the start to the same order are ahead of a row."""
    check_rows(kind, row)
    _, lines = _lines_of(kind, row)
    counts = _counts(lines, len(row))
    number, here = 0, 0
    for at, step in enumerate(row):
        further = counts[len(row) - 1 - at]
        number += sum([further[there] for there in lines[here][:step] if there >= 0])
        here = lines[here][step]
    return number


def row_numbered(kind, order, length, number):
    """Return the row of so many steps, from the start to an order, ahead of which just so many of them are."""
    check_orders(kind, order)
    _check_length(length)
    _, lines = lines_between(kind, kind.start(), order, MOST_BEGINNINGS)
    counts = _counts(lines, length)
    if not (is_count(number) and number < counts[length][0]):
        raise InvalidNumber(number)
    row, here = [], 0
    for further in reversed(counts[:length]):
        for step, there in enumerate(lines[here]):
            many = further[there] if there >= 0 else 0
            if number < many:
                row.append(step)
                here = there
                break
            number -= many
    return row


def next_row(kind, row):
    """Return the first row behind a row of as many steps that comes from the start to the same order, or None."""
    check_rows(kind, row)
    orders, lines = _lines_of(kind, row)
    fars = _fars(kind, orders)
    numbers = [0]
    for step in row:
        numbers.append(lines[numbers[-1]][step])
    # The longest beginning that can stay is sought, so from the end of the row on.
    for at in range(len(row) - 1, -1, -1):
        left = len(row) - 1 - at
        step = _first_step(lines[numbers[at]], fars, row[at] + 1, left)
        if step is not None:
            there = lines[numbers[at]][step]
            return row[:at] + [step] + _first_from(lines, fars, there, left)
    return None


def how_many_staying(kind, order, length):
    """Return how many rows of so many steps come from the start to an order beneath a told one."""
    check_orders(kind, order)
    check_count(length)
    beneath = list(all_beneath(kind, order, MOST_BENEATH))
    numbers = {here: number for number, here in enumerate(beneath)}
    rows = []
    for here in beneath:
        gained = [numbers.get(tuple(after_gain(kind, here, step)), -1) for step in range(kind.steps())]
        rows.append(counted(gained))
    counts = [1] * len(rows)
    for _ in range(length):
        counts = one_more(rows, counts)
    return counts[0]


def last_staying(kind, order, row):
    """Return the greatest number of first steps of a row that come from the start to an order beneath a told one."""
    check_orders(kind, order)
    check_rows(kind, row)
    least = first_least(kind, order)
    here = kind.start()
    for at, step in enumerate(row):
        if not is_crossed(kind, here, step):
            here = after_step(kind, here, step)
            if places_of(kind, here, least) is None:
                return at
    return len(row)


def _check_length(length):
    """Refuse what is no number of steps of a row."""
    if not (is_count(length) and length <= MOST_STEPS):
        raise InvalidNumber(length)


def _lines_of(kind, row):
    """Return the orders that begin the one to which a row comes, and what steps make of them."""
    return lines_between(kind, kind.start(), after_row(kind, kind.start(), row), MOST_BEGINNINGS)


def _counts(lines, length):
    """Return, for 0, 1, 2, .. steps, up to so many, how many rows of them come to the last order, from each order."""
    rows = [counted(line) for line in lines]
    counts = [[0] * (len(lines) - 1) + [1]]
    for _ in range(length):
        counts.append(one_more(rows, counts[-1]))
    return counts


def _fars(kind, orders):
    """Return how many crossings each of some orders has less than the last one."""
    most = count_crossings(kind, orders[-1])
    return [most - count_crossings(kind, here) for here in orders]


def _first_step(line, fars, least, left):
    """Return the first step, from a least one on, behind which so many steps lead to the last order, or None."""
    for step in range(least, len(line)):
        if line[step] >= 0 and fars[line[step]] <= left:
            return step
    return None


def _first_from(lines, fars, here, length):
    """Return the first row of so many steps that leads from an order to the last one."""
    row = []
    for left in range(length - 1, -1, -1):
        step = _first_step(lines[here], fars, 0, left)
        row.append(step)
        here = lines[here][step]
    return row
