"""What the document says, tried out in full: for few logs with few cells.

Nothing here is taken from the package.
"""

from functools import lru_cache
from itertools import combinations, permutations, product
from random import Random


def values_of(log):
    return dict(log)


def cells_read(log):
    return tuple(cell for cell, _ in log)


def all_cells(logs):
    return tuple(sorted({cell for log in logs for cell, _ in log}))


def shared(logs):
    """The cells that all of one or more logs have."""
    return tuple(sorted(set.intersection(*[set(cells_read(log)) for log in logs])))


def by_value(logs, cell):
    """The groups of the logs that have one value of the cell, by this value."""
    groups = {}
    for log in logs:
        groups.setdefault(values_of(log)[cell], []).append(log)
    return {value: tuple(groups[value]) for value in sorted(groups)}


@lru_cache(maxsize=None)
def readable(logs, above=frozenset()):
    """Whether one or more logs have a reader, as every shared cell at every node tells."""
    if len(logs) == 1 and set(cells_read(logs[0])) == above:
        return True
    return any(
        all(readable(group, above | {cell}) for group in by_value(logs, cell).values())
        for cell in shared(logs) if cell not in above
    )


@lru_cache(maxsize=None)
def all_readers(logs, above=frozenset()):
    """All readers of one or more logs, in no special order."""
    if len(logs) == 1 and set(cells_read(logs[0])) == above:
        return ((),)
    found = []
    for cell in shared(logs):
        if cell not in above:
            groups = by_value(logs, cell)
            belows = product(*[all_readers(group, above | {cell}) for group in groups.values()])
            found.extend((cell, tuple(zip(groups, below))) for below in belows)
    return tuple(found)


def splits(logs, cell):
    """Whether the cell splits the group."""
    return all(cell in cells_read(log) for log in logs) and len({values_of(log)[cell] for log in logs}) > 1


def stuck(logs):
    """Whether the group is stuck."""
    return len(logs) > 1 and not any(splits(logs, cell) for cell in all_cells(logs))


def groups_of(logs):
    """All groups of the logs."""
    return [group for size in range(len(logs) + 1) for group in combinations(logs, size)]


def minimal_stuck_groups(logs):
    """All minimal stuck groups of the logs."""
    return [
        group for group in groups_of(logs)
        if stuck(group) and all(readable(tuple(x for x in group if x != log)) for log in group)
    ]


def split_up(logs, last=False):
    """The blocks, where the first or the last cell that splits is always taken."""
    cells = [cell for cell in all_cells(logs) if splits(logs, cell)]
    if not cells:
        return (logs,)
    groups = by_value(logs, cells[-1] if last else cells[0]).values()
    return tuple(sorted(block for group in groups for block in split_up(group, last)))


def agree_on(logs, log, cells):
    """The logs that agree with this log, or a snapshot, on the cells."""
    values = values_of(log)
    return tuple(other for other in logs if all(values_of(other).get(cell) == values[cell] for cell in cells))


@lru_cache(maxsize=None)
def all_orders(logs, log):
    """All possible orders of one of the logs, each order of its cells tried."""
    return tuple(
        order for order in permutations(cells_read(log))
        if all(order[at] in shared(agree_on(logs, log, order[:at])) for at in range(len(order)))
    )


def log_orders(reader, path=()):
    """A (log, order) pair for each leaf of a reader."""
    if reader == ():
        return [(tuple(sorted(path)), cells_read(path))]
    cell, branches = reader
    return [pair for value, below in branches for pair in log_orders(below, path + ((cell, value),))]


def path_on(reader, snapshot):
    """The cells that the reader reads on the snapshot, in reading order."""
    values = values_of(snapshot)
    cells = ()
    while reader not in ((), None):
        cells += (reader[0],)
        reader = dict(reader[1]).get(values[reader[0]])
    return cells


def run_on(reader, snapshot):
    """How the reader's run on the snapshot ends, and the cells that it reads."""
    values = values_of(snapshot)
    below = reader
    while below not in ((), None):
        below = dict(below[1]).get(values[below[0]])
    return "open" if below is None else "done", path_on(reader, snapshot)


def random_reader(random, cells, depth, values):
    """A reader of some of the cells."""
    if depth == 0 or not cells or random.random() < 0.15:
        return ()
    cell = random.choice(cells)
    rest = tuple(other for other in cells if other != cell)
    taken = sorted(random.sample(range(values), random.randint(1, values)))
    return (cell, tuple((value, random_reader(random, rest, depth - 1, values)) for value in taken))


def readable_families(many, cells="abcd", depth=4, values=2, most=8, seed=1):
    """So many logs of readers, not more than most logs in each."""
    random = Random(seed)
    found = []
    while len(found) < many:
        reader = random_reader(random, tuple(cells), depth, values)
        logs = tuple(sorted(log for log, _ in log_orders(reader)))
        if len(logs) <= most and logs not in found:
            found.append(logs)
    return found


def random_log(random, cells, values):
    """A log of some of the cells."""
    return tuple((cell, random.randrange(values)) for cell in cells if random.random() < 0.7)


def random_families(many, cells="abcd", values=2, most=6, seed=2):
    """So many logs, with a reader or without one."""
    random = Random(seed)
    found = []
    while len(found) < many:
        logs = tuple(sorted({random_log(random, cells, values) for _ in range(random.randint(0, most))}))
        if logs not in found:
            found.append(logs)
    return found


def small_families():
    """All logs of two cells with the values 0 and 1, up to four of them together."""
    logs = sorted(
        tuple((cell, value) for cell, value in zip("ab", values) if value is not None)
        for values in product((None, 0, 1), repeat=2)
    )
    return [family for size in range(5) for family in combinations(logs, size)]
