"""What readers of the logs must and can read on a snapshot of the cells."""

from readorder.errors import BadSnapshot
from readorder.groups import newly_shared, refuse_unreadable
from readorder.logs import has_cells, is_listing
from readorder.runs import run_without


def is_snapshot(logs, thing):
    """Whether any object is a snapshot of the logs."""
    return is_listing(thing) and has_cells(logs, thing)


def refuse_snapshot(logs, snapshot):
    """Raise NoLogs, Stuck, or BadSnapshot if the object is no snapshot of the logs."""
    refuse_unreadable(logs)
    if not is_snapshot(logs, snapshot):
        raise BadSnapshot(snapshot)


def hit(logs, snapshot):
    """The log that has the snapshot's values in all its cells, None if there is none."""
    refuse_snapshot(logs, snapshot)
    values = dict(snapshot)
    for log in logs:
        if all([values[cell] == value for cell, value in log]):
            return log
    return None


def certain_reads(logs, snapshot):
    """The ascending tuple of the cells that each reader reads on the snapshot."""
    refuse_snapshot(logs, snapshot)
    values = dict(snapshot)
    path = run_without(logs, values, ()).done
    # A run that had to stop ahead of the cell can go on only by reading it.
    return tuple([cell for cell in sorted(path) if run_without(logs, values, (cell,)).ready()])


def parts_alike(tables, values, cells):
    """The dicts in lists, with the cells of these in which each list has the values."""
    parts = {}
    for table in tables:
        alike = tuple([cell for cell in cells if table[cell] == values[cell]])
        parts.setdefault(alike, []).append(table)
    return list(parts.items())


def with_values(tables, values, cells):
    """The dicts that have the values in these cells."""
    return [table for table in tables if all([table[cell] == values[cell] for cell in cells])]


def possible_reads(logs, snapshot):
    """The ascending tuple of the cells that some reader reads on the snapshot."""
    refuse_snapshot(logs, snapshot)
    values = dict(snapshot)
    tables = [dict(log) for log in logs]
    found = {}
    # For each log, read all cells that can be read and in which the log has
    # the snapshot's values: no run that keeps the log gets further. Logs with
    # the same cells so far go on together, as (these logs, all logs that agree
    # on the cells, the cells).
    waiting = [(tables, tables, ())]
    while waiting:
        kept, group, done = waiting.pop()
        ready = newly_shared(group, done)
        found.update({cell: True for cell in ready})
        for alike, part in parts_alike(kept, values, ready):
            if alike:
                waiting.append((part, with_values(group, values, alike), done + alike))
    return tuple(sorted(found))
