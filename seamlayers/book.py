"""A book of a standing and of the deeds that are done on it."""

from seamlayers.checks import check_standing
from seamlayers.errors import InvalidBook, InvalidDeed, InvalidFlag, InvalidList, InvalidNumber
from seamlayers.errors import NothingToRedo, NothingToUndo, Unlike
from seamlayers.farwork import far_up, fewest_between
from seamlayers.standwork import after_deed, is_deed, whole_of
from seamlayers.values import is_count


class Book:
    """A standing, the deeds that are done on it, and those that are undone."""

    def __init__(self, kind, standing):
        check_standing(kind, standing)
        self._kind = kind
        self._first = [list(layer) for layer in standing]
        self._here = [list(layer) for layer in standing]
        self._log = []
        self._undone = []

    def __eq__(self, other):
        if not isinstance(other, Book):
            return False
        return self._kind == other._kind and self._first == other._first and self._log == other._log

    @property
    def layers(self):
        """The standing that stands."""
        return [list(layer) for layer in self._here]

    @property
    def many_deeds(self):
        """The number of deeds that stand."""
        return len(self._log)

    def log(self):
        """Return the deeds that stand."""
        return list(self._log)

    def do(self, deed):
        """Do a deed, and forget all that are undone."""
        self.together([deed])

    def undo(self):
        """Undo the last deed that stands."""
        if not self._log:
            raise NothingToUndo()
        deed = self._log.pop()
        self._undone.append(deed)
        # Each deed is undone by itself.
        self._here = after_deed(self._kind, self._here, deed)

    def redo(self):
        """Do again the deed that was undone last."""
        if not self._undone:
            raise NothingToRedo()
        deed = self._undone.pop()
        self._log.append(deed)
        self._here = after_deed(self._kind, self._here, deed)

    def together(self, deeds, *, keep=True):
        """Do the deeds of a list, one after the other, and return the standing behind them; or only tell it."""
        if not isinstance(deeds, list):
            raise InvalidList(deeds)
        if not isinstance(keep, bool):
            raise InvalidFlag(keep)
        layers = self.layers
        for deed in deeds:
            if not is_deed(self._kind, layers, deed):
                raise InvalidDeed(deed)
            layers = after_deed(self._kind, layers, deed)
        if keep and deeds:
            self._here = [list(layer) for layer in layers]
            self._log.extend(deeds)
            self._undone = []
        return layers

    def copy(self):
        """Return a book of its own, with what is undone."""
        other = Book(self._kind, self._first)
        other._here = self.layers
        other._log = list(self._log)
        other._undone = list(self._undone)
        return other


def layers_at(book, number):
    """Return the standing behind so many first deeds of the log."""
    _check_book(book)
    if not (is_count(number) and number <= len(book._log)):
        raise InvalidNumber(number)
    layers = [list(layer) for layer in book._first]
    for deed in book._log[:number]:
        layers = after_deed(book._kind, layers, deed)
    return layers


def fars(book):
    """Return how far above is from the first standing, and from the standing behind each deed."""
    _check_book(book)
    return [far_up(book._kind, layers) for layers in _standings_of(book)]


def without_rounds(book):
    """Return the deeds of the log without each stretch that leads from a standing back to it, as soon as it does."""
    _check_book(book)
    told = _standings_of(book)
    deeds, way = [], told[:1]
    for deed, layers in zip(book._log, told[1:]):
        if layers in way:
            way = way[:way.index(layers) + 1]
            deeds = deeds[:len(way) - 1]
        else:
            way.append(layers)
            deeds.append(deed)
    return deeds


def is_direct(book):
    """Tell whether no list of fewer deeds leads from the first standing to the one that stands."""
    _check_book(book)
    return fewest_between(book._kind, book._first, book._here) == len(book._log)


def touched(book):
    """Return the numbers of the layers that are not as they were at first."""
    _check_book(book)
    return [at for at, layer in enumerate(book._first) if layer != book._here[at]]


def since_equal(book, number):
    """Return the least number of deeds behind which, and from then on, a layer is as it is now."""
    _check_book(book)
    if not (is_count(number) and number < len(book._first)):
        raise InvalidNumber(number)
    since = 0
    for at, layers in enumerate(_standings_of(book)):
        if layers[number] != book._here[number]:
            since = at + 1
    return since


def books_joined(one, other):
    """Tell whether deeds lead from the standing that stands in a book to the one that stands in another one."""
    _check_book(one)
    _check_book(other)
    if not (one._kind == other._kind and len(one._first) == len(other._first)):
        raise Unlike(other)
    # No deed changes the whole.
    return whole_of(one._kind, one._first) == whole_of(other._kind, other._first)


def _standings_of(book):
    """Return the first standing and the one behind each deed."""
    told = [book._first]
    for deed in book._log:
        told.append(after_deed(book._kind, told[-1], deed))
    return told


def _check_book(book):
    """Refuse what is no book."""
    if not isinstance(book, Book):
        raise InvalidBook(book)
