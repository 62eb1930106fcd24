"""Logs: which cells a run has read and which values it has found there."""

LONGEST_CELL = 8
LARGEST_VALUE = 10 ** 9
MOST_PAIRS = 60
MOST_LOGS = 300


def is_cell(thing):
    """Whether any object is a cell."""
    if not isinstance(thing, str) or not 1 <= len(thing) <= LONGEST_CELL:
        return False
    return all(["a" <= sign <= "z" for sign in thing])


def is_integer(thing):
    """Whether any object is an integer."""
    # For Python a bool is an int, but it is no integer here.
    return isinstance(thing, int) and not isinstance(thing, bool)


def is_value(thing):
    """Whether any object is a value."""
    return is_integer(thing) and 0 <= thing <= LARGEST_VALUE


def is_ascending(items):
    """Whether each item of a list or tuple is less than the next one."""
    return all([item < after for item, after in zip(items, items[1:])])


def is_pair(thing):
    """Whether any object is a (cell, value) pair."""
    if not isinstance(thing, tuple) or len(thing) != 2:
        return False
    return is_cell(thing[0]) and is_value(thing[1])


def are_pairs(thing):
    """Whether any object is a tuple of (string, integer) pairs, whatever their bounds."""
    if not isinstance(thing, tuple) or not all([isinstance(pair, tuple) and len(pair) == 2 for pair in thing]):
        return False
    return all([isinstance(cell, str) and is_integer(value) for cell, value in thing])


def cells_of(log):
    """The cells of one log, in its order."""
    return tuple([cell for cell, value in log])


def is_listing(thing):
    """Whether any object is an ascending tuple of pairs, no two of one cell."""
    if not isinstance(thing, tuple) or not all([is_pair(pair) for pair in thing]):
        return False
    # Ascending cells mean both: ascending pairs, and no two pairs of one cell.
    return is_ascending(cells_of(thing))


def is_log(thing):
    """Whether any object is a log of at most 60 pairs."""
    return is_listing(thing) and len(thing) <= MOST_PAIRS


def is_logs(thing):
    """Whether any object is logs, at most 300, of at most 60 pairs each."""
    if not isinstance(thing, tuple) or len(thing) > MOST_LOGS:
        return False
    # Only logs can be compared with each other without an error.
    return all([is_log(log) for log in thing]) and is_ascending(thing)


def value_in(log, cell):
    """The value of the cell in the log, None if the log does not have it."""
    return dict(log).get(cell)


def cells_in(logs):
    """The ascending tuple of all cells of the logs."""
    return tuple(sorted({cell for log in logs for cell in cells_of(log)}))


def has_cells(logs, listing):
    """Whether (cell, value) pairs have every cell of the logs."""
    values = dict(listing)
    return all([cell in values for cell in cells_in(logs)])


def shared_cells(logs):
    """The ascending tuple of the cells that every log has; () for no logs."""
    counts = {}
    for log in logs:
        for cell in cells_of(log):
            counts[cell] = counts.get(cell, 0) + 1
    return tuple(sorted([cell for cell, many in counts.items() if many == len(logs)]))


def agrees(log, known):
    """Whether the log has each pair of known."""
    values = dict(log)
    return all([values.get(cell) == value for cell, value in known])


def agreeing(logs, known):
    """The logs that agree with all pairs of known, a log."""
    return tuple([log for log in logs if agrees(log, known)])


def differing(one, other):
    """The ascending tuple of the cells that two logs have with different values."""
    values = dict(other)
    return tuple([cell for cell, value in one if values.get(cell, value) != value])


def is_one_of(logs, thing):
    """Whether any object is one of the logs."""
    # For Python True equals 1, but a log with True in it is none of the logs.
    return thing in logs and not any([isinstance(value, bool) for cell, value in thing])


def are_among(cells, thing):
    """Whether any object is a tuple of cells that are among these, a tuple, too."""
    return isinstance(thing, tuple) and all([cell in cells for cell in thing])
