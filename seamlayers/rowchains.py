"""Changes of rows that leave what they make as it is, and chains of them."""

from seamlayers.checks import check_rows
from seamlayers.errors import InvalidWay, TooMany
from seamlayers.kinds import is_step
from seamlayers.orderwork import after_step, is_crossed
from seamlayers.rowwork import MOST_STEPS, made_by
from seamlayers.turnwork import ended_with, length_of_turn, turned_at
from seamlayers.values import is_count


def row_changes(kind, row):
    """Return the list, in order, of the changes of a row that leave out or turn."""
    check_rows(kind, row)
    changes = [(word, at) for word in ("out", "turn") for at in range(len(row))]
    return [change for change in changes if _is_change(kind, row, change)]


def row_changed(kind, row, change):
    """Return the row that comes of a change."""
    check_rows(kind, row)
    if not _is_change(kind, row, change):
        raise InvalidWay(change)
    changed = _after_change(kind, row, change)
    if len(changed) > MOST_STEPS:
        raise TooMany(len(changed))
    return changed


def row_chain(kind, one, other):
    """Return a list of changes that leads from a row to another one, or None."""
    check_rows(kind, one, other)
    if made_by(kind, one) != made_by(kind, other):
        return None
    ahead, here = _shortened(kind, one)
    behind, there = _shortened(kind, other)
    return ahead + _turns_between(kind, here, there) + _changes_back(kind, other, behind)


def is_row_chain(kind, one, other, value):
    """Tell whether a value is a list of changes that leads from a row to another one."""
    check_rows(kind, one, other)
    if not isinstance(value, list):
        return False
    row = one
    for change in value:
        if not _is_change(kind, row, change):
            return False
        row = _after_change(kind, row, change)
        if len(row) > MOST_STEPS:
            return False
    return row == other


def _is_change(kind, row, value):
    """Tell whether a value is a change of a row."""
    if not (isinstance(value, tuple) and len(value) in (2, 3) and is_count(value[1])):
        return False
    at = value[1]
    if len(value) == 3:
        return value[0] == "in" and at <= len(row) and is_step(kind, value[2])
    if value[0] == "out":
        return at + 1 < len(row) and row[at] == row[at + 1]
    return value[0] == "turn" and length_of_turn(kind, row, at) > 0


def _after_change(kind, row, change):
    """Return the row that comes of a change, however long it is."""
    at = change[1]
    if change[0] == "in":
        return row[:at] + [change[2], change[2]] + row[at:]
    if change[0] == "out":
        return row[:at] + row[at + 2:]
    return turned_at(row, at, length_of_turn(kind, row, at))


def _shortened(kind, row):
    """Return changes that turn and leave out and lead to a least row, and this row."""
    changes = []
    order, end = kind.start(), 0
    while end < len(row):
        step = row[end]
        if is_crossed(kind, order, step):
            # The first steps are least and can be led to end with this step, which then goes out.
            places, row = ended_with(kind, row, end, step)
            changes.extend([("turn", place) for place in places] + [("out", end - 1)])
            row = row[:end - 1] + row[end + 1:]
            end -= 1
        else:
            end += 1
        order = after_step(kind, order, step)
    return changes, row


def _turns_between(kind, row, goal):
    """Return the turns that lead from a least row to another one that makes the same order."""
    changes = []
    for end in range(len(goal), 0, -1):
        places, row = ended_with(kind, row, end, goal[end - 1])
        changes.extend([("turn", place) for place in places])
    return changes


def _changes_back(kind, row, changes):
    """Return the changes that lead back to a row from where changes lead from it."""
    back = []
    for change in changes:
        back.append(("in", change[1], row[change[1]]) if change[0] == "out" else change)
        row = _after_change(kind, row, change)
    return back[::-1]
