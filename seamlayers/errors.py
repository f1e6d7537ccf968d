"""The errors of the package.

Each error with a field keeps what it is about in `value`.
"""


class SeamError(ValueError):
    """Whatever the package refuses."""


class InvalidKind(SeamError):
    """What should be a kind is none."""

    def __init__(self, value=None):
        self.value = value


class InvalidOrder(SeamError):
    """What should be an order of a kind is none."""

    def __init__(self, value=None):
        self.value = value


class InvalidNumber(SeamError):
    """What should be a number of a told sort is none."""

    def __init__(self, value=None):
        self.value = value


class InvalidRow(SeamError):
    """What should be a row of steps is none."""

    def __init__(self, value=None):
        self.value = value


class InvalidList(SeamError):
    """What should be a list of a told sort is none."""

    def __init__(self, value=None):
        self.value = value


class InvalidStanding(SeamError):
    """What should be a standing of layers is none."""

    def __init__(self, value=None):
        self.value = value


class InvalidDeed(SeamError):
    """What should be a deed of a standing is none."""

    def __init__(self, value=None):
        self.value = value


class InvalidWay(SeamError):
    """What should be a way or a change is none."""

    def __init__(self, value=None):
        self.value = value


class InvalidLines(SeamError):
    """What should be a text of lines is none."""

    def __init__(self, value=None):
        self.value = value


class InvalidFlag(SeamError):
    """What should be a Boolean is none."""

    def __init__(self, value=None):
        self.value = value


class InvalidBook(SeamError):
    """What should be a book is none."""

    def __init__(self, value=None):
        self.value = value


class Unlike(SeamError):
    """Two things that should be alike in size are not."""

    def __init__(self, value=None):
        self.value = value


class TooMany(SeamError):
    """There is more of something than is worked with."""

    def __init__(self, value=None):
        self.value = value


class NothingToUndo(SeamError):
    """No deed stands that could be undone."""


class NothingToRedo(SeamError):
    """No deed is undone that could be done again."""
