"""Rows that have the same greedy row, and chains of greedy changes between them."""

from seamlayers.checks import check_rows
from seamlayers.errors import InvalidRow
from seamlayers.greedywork import after_row
from seamlayers.kinds import check_kind
from seamlayers.orderwork import after_step, is_crossed
from seamlayers.rowwork import is_told_row
from seamlayers.turnwork import ended_with, length_of_turn, turned_at

MOST_CHAINED = 12


def greedily_alike(kind, one, other):
    """Tell whether two rows have the same greedy row."""
    check_rows(kind, one, other)
    return _are_alike(kind, one, other)


def chain(kind, one, other):
    """Return a list of rows, each by a greedy change from the one ahead, between two rows, or None."""
    _check_short(kind, one, other)
    if not _are_alike(kind, one, other):
        return None
    ahead = _rows_to_least(kind, one)
    behind = _rows_to_least(kind, other)[::-1]
    rows = ahead + _rows_turned(kind, ahead[-1], behind[0]) + behind[1:]
    return [list(row) for row in rows]


def is_chain(kind, one, other, value):
    """Tell whether a value is a list of rows as `chain` returns them."""
    _check_short(kind, one, other)
    if not (isinstance(value, list) and all([is_told_row(kind, row) for row in value])):
        return False
    if not (value and value[0] == one and value[-1] == other):
        return False
    return all([_is_changed(kind, value[at], value[at + 1]) for at in range(len(value) - 1)])


def _check_short(kind, *rows):
    """Refuse what is no kind, then each of the values that is no row of at most 12 steps."""
    check_kind(kind)
    for row in rows:
        if not (is_told_row(kind, row) and len(row) <= MOST_CHAINED):
            raise InvalidRow(row)


def _are_alike(kind, one, other):
    """Tell whether two rows have the same greedy row, unchecked."""
    return after_row(kind, kind.start(), one) == after_row(kind, kind.start(), other)


def _rows_behind(kind, row, places):
    """Return the rows behind turns at places, one after the other."""
    rows = []
    for at in places:
        row = turned_at(row, at, length_of_turn(kind, row, at))
        rows.append(row)
    return rows


def _rows_to_least(kind, row):
    """Return rows by greedy changes from a row, itself first, to a least one."""
    rows = [row]
    order, end = kind.start(), 0
    while end < len(row):
        step = row[end]
        if is_crossed(kind, order, step):
            # The first steps are least and can be led to end with this step, which is then one of two.
            places, row = ended_with(kind, row, end, step)
            row = row[:end] + row[end + 1:]
            rows = rows + _rows_behind(kind, rows[-1], places) + [row]
        else:
            order = after_step(kind, order, step)
            end += 1
    return rows


def _rows_turned(kind, row, goal):
    """Return the rows by turns from behind a least row to another one of the same order."""
    rows = []
    for end in range(len(goal), 0, -1):
        places, further = ended_with(kind, row, end, goal[end - 1])
        rows = rows + _rows_behind(kind, row, places)
        row = further
    return rows


def _is_changed(kind, row, further):
    """Tell whether a row comes of another one by one greedy change."""
    if len(row) == len(further):
        return _is_turned(kind, row, further)
    if len(row) > len(further):
        return _lacks_a_twin(row, further)
    return _lacks_a_twin(further, row)


def _is_turned(kind, row, further):
    """Tell whether a row of the same length comes of another one by a turn."""
    unlike = [at for at in range(len(row)) if row[at] != further[at]]
    # A turn changes each step of its stretch, so it begins where the rows begin to differ.
    length = length_of_turn(kind, row, unlike[0]) if unlike else 0
    return length > 0 and turned_at(row, unlike[0], length) == further


def _lacks_a_twin(row, further):
    """Tell whether one of two equal neighbours of a row is left out in another one."""
    twins = [at for at in range(len(row) - 1) if row[at] == row[at + 1]]
    return any([row[:at] + row[at + 1:] == further for at in twins])
