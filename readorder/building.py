"""Building a reader, for groups of logs that have one.

A log is a dict here. The order of its cells is the order in which the reader
prefers to read them.
"""


def all_have(tables, cell):
    """Whether all the dicts have the cell."""
    for table in tables:
        if cell not in table:
            return False
    return True


def first_shared(tables):
    """The first cell that all the dicts have, None if there is none."""
    for cell in min(tables, key=len):
        if all_have(tables, cell):
            return cell
    return None


def without_cell(table, cell):
    """The dict without the cell."""
    return {other: value for other, value in table.items() if other != cell}


def parts_by(tables, cell):
    """A (value, dicts without the cell) pair for each value of the cell, ascending."""
    parts = {}
    for table in tables:
        parts.setdefault(table[cell], []).append(without_cell(table, cell))
    return [(value, parts[value]) for value in sorted(parts)]


def plan_of(tables):
    """For each number of a node or leaf: its cell and its (value, number) pairs.

    The root has the number 0, and what is below has a higher number.
    """
    plan = {}
    many = 1
    waiting = [(0, tables)]
    while waiting:
        number, group = waiting.pop()
        cell = first_shared(group)
        branches = []
        if cell is not None:
            for value, part in parts_by(group, cell):
                branches.append((value, many))
                waiting.append((many, part))
                many += 1
        plan[number] = (cell, branches)
    return plan


def built_reader(tables):
    """The reader that reads at each node the first cell that all logs below it have."""
    plan = plan_of(tables)
    readers = {}
    # From the highest number down, so that what is below is there already.
    for number in reversed(range(len(plan))):
        cell, branches = plan[number]
        if cell is None:
            readers[number] = ()
        else:
            readers[number] = (cell, tuple([(value, readers[below]) for value, below in branches]))
    return readers[0]
