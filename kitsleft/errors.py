"""The errors of the package. Each one keeps its fields as they were handed in."""


class KitError(ValueError):
    """The base class of all errors of the package."""


class PaperError(KitError):
    """Something written down does not say what it must."""


class ShopError(KitError):
    """A shop cannot do what is asked of it."""


class LiveError(KitError):
    """A live shop cannot go on, or back, as asked."""


class TextError(KitError):
    """A text cannot be read."""


class InvalidPaper(PaperError):
    """A paper or a shop is refused for the reason word, at this place."""

    def __init__(self, word, at):
        self.word = word
        self.at = at


class NotUsable(ShopError):
    """The parameter called word is not as it must be."""

    def __init__(self, word, at):
        self.word = word
        self.at = at


class NotHeld(ShopError):
    """A row does not hold: short tells which choices and parts are overasked."""

    def __init__(self, short):
        self.short = short


class NotPossible(ShopError):
    """The deed with the index at cannot be done."""

    def __init__(self, at):
        self.at = at


class InvalidEvent(LiveError):
    """An event is not possible, for this reason."""

    def __init__(self, event, reason):
        self.event = event
        self.reason = reason


class NothingToUndo(LiveError):
    """There are only so many steps to take back."""

    def __init__(self, steps):
        self.steps = steps


class InvalidText(TextError):
    """A text cannot be read from this line and this word of it on."""

    def __init__(self, line, field):
        self.line = line
        self.field = field


class InvalidRow(TextError):
    """A desk does not know this row."""

    def __init__(self, row):
        self.row = row
