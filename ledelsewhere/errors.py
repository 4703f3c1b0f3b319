"""The errors of the package. Each one holds the values that it was given, whatever kind of value they are."""


class LedError(ValueError):
    """The base class of all errors of the package."""


class InvalidSite(LedError):
    """A part of a site is not allowed; the path says where."""

    def __init__(self, part, path):
        self.part = part
        self.path = path


class InvalidRule(LedError):
    """A part of a rule is not allowed."""

    def __init__(self, part):
        self.part = part


class InvalidFlags(LedError):
    """The flags are not those that are needed."""

    def __init__(self, flags):
        self.flags = flags


class InvalidStanding(LedError):
    """The value is not a standing."""


class InvalidDeed(LedError):
    """The value is not a deed."""

    def __init__(self, deed):
        self.deed = deed


class InvalidPath(LedError):
    """The value is not the path of a row."""

    def __init__(self, path):
        self.path = path


class InvalidSide(LedError):
    """The side is neither "enter" nor "leave"."""

    def __init__(self, side):
        self.side = side


class InvalidPosition(LedError):
    """The value is not the position of an ask row."""

    def __init__(self, position):
        self.position = position


class InvalidText(LedError):
    """The text is not allowed from this line on."""

    def __init__(self, line):
        self.line = line


class UnknownPage(LedError):
    """The site has no such page."""

    def __init__(self, page):
        self.page = page


class UnknownBit(LedError):
    """The site has no such bit."""

    def __init__(self, bit):
        self.bit = bit


class TooManyLeads(LedError):
    """A way would be led once too often, to this page."""

    def __init__(self, page):
        self.page = page


class NothingToUndo(LedError):
    """There is nothing that can be taken back."""


class NothingToRedo(LedError):
    """There is nothing that can be done again."""


class InvalidBound(LedError):
    """The value is not a bound."""

    def __init__(self, value):
        self.value = value


class LimitExceeded(LedError):
    """There is more than the limit allows."""

    def __init__(self, limit):
        self.limit = limit


class NoStanding(LedError):
    """The book has no such standing."""


class NoFault(LedError):
    """The book has no such fault."""

    def __init__(self, kind, page):
        self.kind = kind
        self.page = page


class InvalidKind(LedError):
    """There is no fault of this kind."""

    def __init__(self, kind):
        self.kind = kind


class NotComparable(LedError):
    """Two sites differ in a part in which they have to be the same."""

    def __init__(self, part):
        self.part = part


class InvalidChange(LedError):
    """The item at the index is not a change that is allowed there."""

    def __init__(self, index):
        self.index = index


class InvalidRules(LedError):
    """There are too few rules or too many."""
