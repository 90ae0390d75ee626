"""The refusals. Each is caught by its own name, or all of them as TuneError."""

from tunehall.copies import own


class TuneError(ValueError):
    """Any refusal."""


class BadText(TuneError):
    """What is no text of a field: at is the number of a row, or None."""

    def __init__(self, at):
        super().__init__("this is no text of a field")
        self.at = own(at)


class Lacking(TuneError):
    """A name in a row that no station has."""

    def __init__(self, row, name):
        super().__init__("no station has this name")
        self.row = own(row)
        self.name = own(name)


class Twice(TuneError):
    """A name in a row for which something is told a second time."""

    def __init__(self, row, name):
        super().__init__("this is told of this name already")
        self.row = own(row)
        self.name = own(name)


class BadNumber(TuneError):
    """A number in a row that is out of its bounds."""

    def __init__(self, row):
        super().__init__("a number in this row is out of its bounds")
        self.row = own(row)


class TooMany(TuneError):
    """A search that has too many cases."""


class BadWeb(TuneError):
    """What is no web, or not a web such as is wanted."""


class BadPlan(TuneError):
    """What is no plan, or not a plan such as is wanted."""


class BadShown(TuneError):
    """What shows nothing."""


class NoPlan(TuneError):
    """No plan is good."""


class BadLine(TuneError):
    """What is no line for a desk."""
