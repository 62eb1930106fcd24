"""Counting: the readers of logs, and the assignments that logs cover."""

from math import factorial

from readorder.errors import BadSizes, TooLarge
from readorder.groups import newly_shared, places_by_values, refuse_stuck
from readorder.logs import cells_in, has_cells, is_listing

MOST_CELLS_COUNTED = 12
MOST_LOGS_COUNTED = 60


def product_of(numbers):
    """The product of a list of numbers."""
    whole = 1
    for number in numbers:
        whole = whole * number
    return whole


class ReaderCount:
    """How many readers groups of logs have; what is known is kept."""

    def __init__(self, logs):
        self.tables = [dict(log) for log in logs]
        self.known = {}

    def readers(self, group, done):
        """The number for a group, a tuple of places, behind reads of the cells done."""
        key = (group, done)
        if key not in self.known:
            self.known[key] = self.counted(group, done)
        return self.known[key]

    def counted(self, group, done):
        """The number, from those of the smaller groups that each next read leads to."""
        tables = [self.tables[place] for place in group]
        # A single log can be read in any order.
        if len(group) == 1:
            return factorial(len(tables[0]) - len(done))
        whole = 0
        for cell in newly_shared(tables, done):
            after = tuple(sorted([*done, cell]))
            parts = places_by_values(group, self.tables, [cell])
            whole += product_of([self.readers(tuple(part), after) for part in parts])
        return whole


def count_readers(logs):
    """How many readers the logs have, 0 for no logs."""
    refuse_stuck(logs)
    if len(cells_in(logs)) > MOST_CELLS_COUNTED:
        raise TooLarge(MOST_CELLS_COUNTED)
    if len(logs) > MOST_LOGS_COUNTED:
        raise TooLarge(MOST_LOGS_COUNTED)
    if not logs:
        return 0
    return ReaderCount(logs).readers(tuple(range(len(logs))), ())


def are_sizes(thing):
    """Whether any object is sizes."""
    # They have the same bounds as the values of a log, but 0 is no size.
    return is_listing(thing) and all([size > 0 for cell, size in thing])


def refuse_sizes(logs, sizes):
    """Raise Stuck, or BadSizes if any object is not sizes that have all cells of the logs."""
    refuse_stuck(logs)
    if not are_sizes(sizes) or not has_cells(logs, sizes):
        raise BadSizes(sizes)


def is_below(log, table):
    """Whether each value of the log is below the size of its cell."""
    return all([value < table[cell] for cell, value in log])


def assignments(table):
    """How many assignments there are of the sizes in a dict."""
    return product_of(list(table.values()))


def covered(logs, sizes):
    """How many assignments of the sizes some log covers."""
    refuse_sizes(logs, sizes)
    table = dict(sizes)
    whole = assignments(table)
    # No assignment is covered by two logs, as the logs have a reader.
    return sum([whole // product_of([table[cell] for cell, value in log]) for log in logs if is_below(log, table)])


def is_complete(logs, sizes):
    """Whether the logs cover all assignments of the sizes."""
    return covered(logs, sizes) == assignments(dict(sizes))
