"""Groups of logs: which of them have no reader, and a reader of those that have."""

from readorder.building import all_have, built_reader
from readorder.errors import NoLogs, Stuck
from readorder.logs import is_ascending, is_one_of, shared_cells


def splitting_cells(logs):
    """The ascending tuple of the cells that split the logs."""
    tables = [dict(log) for log in logs]
    return tuple([cell for cell in shared_cells(logs) if len({table[cell] for table in tables}) > 1])


def is_stuck(logs):
    """Whether the logs are a stuck group."""
    return len(logs) > 1 and splitting_cells(logs) == ()


def newly_shared(tables, seen):
    """The cells, not seen ahead, that all the dicts have."""
    return [cell for cell in min(tables, key=len) if cell not in seen and all_have(tables, cell)]


def places_by_values(group, tables, cells):
    """The places of a group, a list for each combination of values of the cells."""
    parts = {}
    for place in group:
        key = tuple([tables[place][cell] for cell in cells])
        parts.setdefault(key, []).append(place)
    return list(parts.values())


def block_places(logs):
    """The blocks of one or more logs, each as an ascending list of places in them."""
    tables = [dict(log) for log in logs]
    waiting = [(list(range(len(logs))), {})]
    found = []
    while waiting:
        group, seen = waiting.pop()
        # Split by all shared cells at once. Within each part they have one
        # value, so no part of it needs to look at them again.
        cells = newly_shared([tables[place] for place in group], seen)
        parts = places_by_values(group, tables, cells)
        if len(parts) == 1:
            found.append(group)
        else:
            below = {cell: True for cell in [*seen, *cells]}
            waiting.extend([(part, below) for part in parts])
    return found


def blocks(logs):
    """The ascending tuple of all blocks; () for no logs."""
    if not logs:
        return ()
    return tuple(sorted([tuple([logs[place] for place in group]) for group in block_places(logs)]))


def has_reader(logs):
    """Whether the logs have a reader."""
    return len(logs) > 0 and len(block_places(logs)) == len(logs)


def stuck_block(logs):
    """The first block of two logs or more, None if there is none."""
    for block in blocks(logs):
        if len(block) > 1:
            return block
    return None


def without_log(logs, log):
    """The logs without one of them."""
    return tuple([other for other in logs if other != log])


def stuck_group(logs):
    """A minimal stuck group of the logs, None if there is none."""
    block = stuck_block(logs)
    if block is None:
        return None
    group = block
    for log in block:
        # A log that is needed once is needed in all smaller groups, too.
        if log in group:
            group = stuck_block(without_log(group, log)) or group
    return group


def is_group(logs, thing):
    """Whether any object is a group of the logs."""
    if not isinstance(thing, tuple) or not all([is_one_of(logs, log) for log in thing]):
        return False
    return is_ascending(thing)


def is_minimal_stuck(logs, thing):
    """Whether any object is a minimal stuck group of the logs."""
    if not is_group(logs, thing) or not is_stuck(thing):
        return False
    return all([has_reader(without_log(thing, log)) for log in thing])


def refuse_stuck(logs):
    """Raise Stuck if one or more logs have no reader."""
    group = stuck_group(logs)
    if group is not None:
        raise Stuck(group)


def refuse_unreadable(logs):
    """Raise NoLogs if there are no logs, Stuck if they have no reader."""
    if not logs:
        raise NoLogs()
    refuse_stuck(logs)


def preferring(log, prefer):
    """The log as a dict, with the cells of prefer ahead of the others."""
    table = dict(log)
    ahead = {cell: table[cell] for cell in prefer if cell in table}
    return {**ahead, **table}


def reader_for(logs, *, prefer=()):
    """The reader of the logs that reads the cells of prefer as early as it can."""
    refuse_unreadable(logs)
    return built_reader([preferring(log, prefer) for log in logs])
