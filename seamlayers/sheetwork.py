"""Texts of sheets, read line by line, without checks."""

from seamlayers.errors import SeamError
from seamlayers.greedywork import greedy_of
from seamlayers.kinds import Kind
from seamlayers.orderwork import MOST_CROSSINGS, count_crossings, is_told_order
from seamlayers.rowwork import is_told_row
from seamlayers.standwork import MOST_LAYERS

MOST_SHEET_STANDINGS = 50
MOST_SHEET_ROWS = 100
FIGURES = "0123456789"
# No number of an order or a row is as long, and longer ones take longer to read.
MOST_FIGURES = 30


def words_of(line):
    """Return the words of a line, what follows a remark sign left out."""
    return [word for word in line.split("#")[0].split(" ") if word]


def number_of(word):
    """Return the number that a word is written for, or None."""
    figures = word[1:] if word.startswith("-") else word
    if not 1 <= len(figures) <= MOST_FIGURES or not all([figure in FIGURES for figure in figures]):
        return None
    if figures[0] == "0" and word != "0":
        return None
    return int(word)


class Sheet:
    """What the lines of a text tell, as far as they are read."""

    def __init__(self):
        self.kind = None
        self.standings = []
        self.rows = []
        # The whole of the last standing while it may get more layers.
        self._whole = None

    def is_ended(self):
        """Tell whether a text may end here."""
        return self.kind is not None and not self._is_bare()

    def take(self, line):
        """Read one more line; tell whether it may stand here."""
        words = words_of(line)
        if not words:
            return True
        if self.kind is None:
            return words[0] == "kind" and self._take_kind(words[1:])
        numbers = [number_of(word) for word in words[1:]]
        if words[0] == "layer":
            return self._take_layer(numbers)
        if self._is_bare():
            return False
        if words[0] == "standing":
            return self._take_standing(numbers)
        return words[0] == "row" and self._take_row(numbers)

    def _is_bare(self):
        """Tell whether the last standing has no layer yet."""
        return bool(self.standings) and not self.standings[-1]

    def _take_kind(self, words):
        """Read the words behind `kind`."""
        if len(words) != 2:
            return False
        try:
            self.kind = Kind(words[0], number_of(words[1]))
        except SeamError:
            return False
        return True

    def _take_standing(self, numbers):
        """Begin one more standing."""
        if numbers or len(self.standings) == MOST_SHEET_STANDINGS:
            return False
        self.standings.append([])
        self._whole = self.kind.start()
        return True

    def _take_layer(self, numbers):
        """Read one more layer of the last standing."""
        if self._whole is None or len(self.standings[-1]) == MOST_LAYERS or not is_told_order(self.kind, numbers):
            return False
        self._whole = greedy_of(self.kind, self._whole, numbers)
        self.standings[-1].append(numbers)
        return count_crossings(self.kind, self._whole) <= MOST_CROSSINGS

    def _take_row(self, numbers):
        """Read one more row."""
        if len(self.rows) == MOST_SHEET_ROWS or not is_told_row(self.kind, numbers):
            return False
        self.rows.append(numbers)
        self._whole = None
        return True


def lines_of(text):
    """Return the lines of a text, the last one whether it is ended or not."""
    lines = text.split("\n")
    return lines if lines[-1] else lines[:-1]


def read_lines(text):
    """Return the sheet of a text, as far as it can be read, and the number of the first wrong line, or None."""
    sheet = Sheet()
    lines = lines_of(text)
    for at, line in enumerate(lines):
        if not sheet.take(line):
            return sheet, at + 1
    return sheet, None if sheet.is_ended() else len(lines) + 1
