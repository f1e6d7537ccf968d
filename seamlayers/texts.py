"""Sheets: a kind with standings and rows of it, as texts."""

from seamlayers.errors import InvalidLines, InvalidList
from seamlayers.kinds import check_kind
from seamlayers.rowwork import is_told_row
from seamlayers.sheetwork import MOST_SHEET_ROWS, MOST_SHEET_STANDINGS, read_lines
from seamlayers.standwork import is_told_standing


def sheet_text(kind, standings, rows):
    """Return the text of a sheet."""
    check_kind(kind)
    if not (isinstance(standings, list) and len(standings) <= MOST_SHEET_STANDINGS):
        raise InvalidList(standings)
    if not all([is_told_standing(kind, standing) for standing in standings]):
        raise InvalidList(standings)
    if not (isinstance(rows, list) and len(rows) <= MOST_SHEET_ROWS):
        raise InvalidList(rows)
    if not all([is_told_row(kind, row) for row in rows]):
        raise InvalidList(rows)
    lines = [_line_of("kind", [kind.name(), kind.size()])]
    for standing in standings:
        lines.append("standing")
        lines.extend([_line_of("layer", layer) for layer in standing])
    lines.extend([_line_of("row", row) for row in rows])
    return "\n".join(lines) + "\n"


def read_sheet(text):
    """Return the kind, the standings and the rows that a text tells."""
    if not isinstance(text, str):
        raise InvalidLines(text)
    sheet, wrong = read_lines(text)
    if wrong is not None:
        raise InvalidLines(text)
    return sheet.kind, sheet.standings, sheet.rows


def wrong_line(text):
    """Return the number of the first line with which no text that is read begins, None if the text is read."""
    if not isinstance(text, str):
        raise InvalidLines(text)
    _, wrong = read_lines(text)
    return wrong


def _line_of(word, further):
    """Return the line of a word and of what stands behind it."""
    return " ".join([word] + [str(one) for one in further])
