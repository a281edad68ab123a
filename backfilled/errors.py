"""The errors of the package, each made from its one field."""


class BackfilledError(ValueError):
    """What every error of the package is."""


class BadName(BackfilledError):
    """A value that is no name."""

    def __init__(self, value):
        self.value = value


class BadColumns(BackfilledError):
    """A value that is no columns, or a content whose columns do not fit."""

    def __init__(self, value):
        self.value = value


class BadRow(BackfilledError):
    """A value that is no row, no key or no list of rows."""

    def __init__(self, value):
        self.value = value


class BadDay(BackfilledError):
    """A value that is no day."""

    def __init__(self, value):
        self.value = value


class BadNumber(BackfilledError):
    """A value that is no number within its bounds."""

    def __init__(self, value):
        self.value = value


class InvalidText(BackfilledError):
    """A value that is no text of a journal."""

    def __init__(self, value):
        self.value = value


class InvalidCommand(BackfilledError):
    """A value that is no command of the console."""

    def __init__(self, value):
        self.value = value


class BadText(BackfilledError):
    """The text of no code; the field is the index of its first fault, or None."""

    def __init__(self, at):
        self.at = at


class BadCode(BackfilledError):
    """A code that is not valid; the field is its first such part, or None."""

    def __init__(self, part):
        self.part = part


class UnknownTable(BackfilledError):
    """A value that is no table of the kind that is asked for."""

    def __init__(self, name):
        self.name = name


class UnknownColumn(BackfilledError):
    """A value that is no name of a column."""

    def __init__(self, name):
        self.name = name


class UnknownName(BackfilledError):
    """A value that nothing has as its name."""

    def __init__(self, name):
        self.name = name


class NameTaken(BackfilledError):
    """A name that something has already."""

    def __init__(self, name):
        self.name = name


class BadMoment(BackfilledError):
    """A value that is no moment."""

    def __init__(self, moment):
        self.moment = moment


class LimitExceeded(BackfilledError):
    """More than there may be; the field is the limit."""

    def __init__(self, limit):
        self.limit = limit


class NotOpen(BackfilledError):
    """A claim, by its number, that is not open."""

    def __init__(self, number):
        self.number = number


class TrialOver(BackfilledError):
    """A trial that is over."""
