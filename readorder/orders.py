"""The orders in which readers of the logs can have read one of them."""

from readorder.errors import BadOrder, NotALog, TooLarge
from readorder.groups import refuse_unreadable
from readorder.logs import agreeing, are_among, cells_of, is_one_of, shared_cells
from readorder.runs import Run, run_without

MOST_COUNTED = 12


def refuse_other(logs, log):
    """Raise NoLogs, Stuck, or NotALog if the object is not one of the logs."""
    refuse_unreadable(logs)
    if not is_one_of(logs, log):
        raise NotALog(log)


def has_next(values, other, order):
    """Whether another log has each cell of the order that is read while it agrees."""
    for cell in order:
        if cell not in other:
            return False
        if other[cell] != values[cell]:
            return True
    return True


def begins_order(logs, log, thing):
    """Whether any object is a tuple that begins a possible order of the log."""
    if not are_among(cells_of(log), thing) or len({cell for cell in thing}) < len(thing):
        return False
    values = dict(log)
    return all([has_next(values, dict(other), thing) for other in logs])


def is_whole_order(logs, log, thing):
    """Whether any object is a possible order of the log, one of logs with a reader."""
    return begins_order(logs, log, thing) and len(thing) == len(log)


def next_cells(logs, log, done):
    """The ascending tuple of the cells that can be read next after the cells done."""
    refuse_other(logs, log)
    if not begins_order(logs, log, done):
        raise BadOrder(done)
    values = dict(log)
    group = agreeing(logs, [(cell, values[cell]) for cell in done])
    return tuple([cell for cell in shared_cells(group) if cell not in done])


def is_order(logs, log, thing):
    """Whether any object is a possible order of the log."""
    refuse_other(logs, log)
    return is_whole_order(logs, log, thing)


def bars_of(logs, log):
    """What bars cells of the log, as (same, lacking) pairs of sums of bits.

    As long as only cells of same are read, the cells of lacking cannot be.
    """
    bits = {cell: 1 << place for place, cell in enumerate(cells_of(log))}
    bars = {}
    for other in logs:
        table = dict(other)
        same = sum([bits[cell] for cell, value in log if table.get(cell) == value])
        lacking = sum([bits[cell] for cell in bits if cell not in table])
        bars[(same, lacking)] = True
    return list(bars)


def ready_bits(bars, many, done):
    """The bits, out of so many, of the cells that can be read next."""
    barred = done
    for same, lacking in bars:
        if done & same == done:
            barred = barred | lacking
    return [1 << place for place in range(many) if not barred & (1 << place)]


def count_orders(logs, log):
    """How many possible orders the log has."""
    refuse_other(logs, log)
    if len(log) > MOST_COUNTED:
        raise TooLarge(MOST_COUNTED)
    bars = bars_of(logs, log)
    # For each set of cells, as a sum of bits: the number of ways to begin with
    # them. Ascending sums have each set behind all that it grows from.
    ways = [0] * (1 << len(log))
    ways[0] = 1
    for done in range(len(ways)):
        if ways[done]:
            for bit in ready_bits(bars, len(log), done):
                ways[done + bit] += ways[done]
    return ways[-1]


def closure(logs, log, avoid):
    """The ascending tuple of the cells that can be read ahead of all cells of avoid."""
    refuse_other(logs, log)
    return tuple(sorted(run_without(logs, dict(log), avoid).done))


def precedence(logs, log):
    """The ascending tuple of the pairs (first, later) that no possible order turns round."""
    refuse_other(logs, log)
    pairs = []
    for first in cells_of(log):
        ahead = run_without(logs, dict(log), (first,)).done
        pairs.extend([(first, later) for later in cells_of(log) if later != first and later not in ahead])
    return tuple(pairs)


def rounds(logs, log):
    """The cells of the log in rounds, each tuple as early as its cells can be read."""
    refuse_other(logs, log)
    run = Run(logs, dict(log))
    found = []
    ready = run.ready()
    while ready:
        found.append(tuple(ready))
        for cell in ready:
            run.read(cell)
        ready = run.ready()
    return tuple(found)
