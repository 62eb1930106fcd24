"""The errors of the library, all directly under ReadError."""


class ReadError(ValueError):
    """What every error of this library is."""


class NoLogs(ReadError):
    """Logs are needed, and there are none."""


class Stuck(ReadError):
    """The logs have no reader, as this group of them shows."""

    def __init__(self, group):
        self.group = group


class NotALog(ReadError):
    """This object is not one of the logs."""

    def __init__(self, log):
        self.log = log


class BadLog(ReadError):
    """This object is no log."""

    def __init__(self, log):
        self.log = log


class BadLogs(ReadError):
    """This object is no logs."""

    def __init__(self, value):
        self.value = value


class BadOrder(ReadError):
    """This object is no order of the kind that is needed."""

    def __init__(self, order):
        self.order = order


class BadCell(ReadError):
    """This object is no cell that can stand here."""

    def __init__(self, cell):
        self.cell = cell


class OrdersClash(ReadError):
    """The orders at these two places do not belong to one reader."""

    def __init__(self, one, other):
        self.one = one
        self.other = other


class BadSnapshot(ReadError):
    """This object is no snapshot of the logs."""

    def __init__(self, snapshot):
        self.snapshot = snapshot


class BadSwap(ReadError):
    """This object is no place at which the reader can be swapped."""

    def __init__(self, place):
        self.place = place


class DifferentLogs(ReadError):
    """The two readers have different logs."""


class TooLarge(ReadError):
    """There is more of something than this limit."""

    def __init__(self, limit):
        self.limit = limit


class BadSizes(ReadError):
    """This object is no sizes that have all cells of the logs."""

    def __init__(self, sizes):
        self.sizes = sizes


class BadResults(ReadError):
    """This object is no results that can be inlined."""

    def __init__(self, results):
        self.results = results


class Full(ReadError):
    """The recorder holds as many logs as it can."""


class NothingToUndo(ReadError):
    """The recorder has no action to take back."""


class BadText(ReadError):
    """The text is wrong in this line, counted from 0."""

    def __init__(self, line):
        self.line = line


class BadCommand(ReadError):
    """This object is no command of the desk."""

    def __init__(self, line):
        self.line = line
