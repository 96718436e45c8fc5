"""The refusals of the program."""


class SheetError(ValueError):
    """Any refusal."""


class NoNumber(SheetError):
    """What would be over nought is no number."""


class NoBook(SheetError):
    """What would be no book."""


class TooGreat(SheetError):
    """A cell with content would leave its sheet."""


class NoPlace(SheetError):
    """A place that isn't there."""


class NoName(SheetError):
    """A name that isn't there, or can't be given."""


class NoUndo(SheetError):
    """There is no deed to undo."""


class NoRedo(SheetError):
    """There is no deed to do again."""


class NoRow(SheetError):
    """A row that the desk doesn't know."""


class NoText(SheetError):
    """A text that isn't read; `at` tells where that shows."""

    def __init__(self, at):
        SheetError.__init__(self, f"not a text of this form, at {at}")
        self.at = at
