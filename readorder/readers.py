"""Readers: programs as trees of the cells that they read."""

from readorder.logs import is_ascending, is_cell, is_value

MOST_NODES = 60
MOST_LEAVES = 300


def is_branch(thing):
    """Whether any object is a value and something that it leads to."""
    return isinstance(thing, tuple) and len(thing) == 2 and is_value(thing[0])


def is_node(thing):
    """Whether any object is a node, whatever its branches lead to."""
    if not isinstance(thing, tuple) or len(thing) != 2:
        return False
    cell, branches = thing
    if not is_cell(cell) or not isinstance(branches, tuple) or len(branches) == 0:
        return False
    if not all([is_branch(branch) for branch in branches]):
        return False
    return is_ascending([value for value, below in branches])


def is_reader(thing):
    """Whether any object is a reader."""
    # A list of what is still to be looked at, with the cells above it, takes
    # the place of recursion: the object may be nested deeper than a reader.
    waiting = [(thing, ())]
    leaves = 0
    while waiting and leaves <= MOST_LEAVES:
        part, above = waiting.pop()
        if part == ():
            leaves += 1
        elif not is_node(part) or part[0] in above or len(above) == MOST_NODES:
            return False
        else:
            cell, branches = part
            waiting.extend([(below, above + (cell,)) for value, below in branches])
    return leaves <= MOST_LEAVES


def logs_of(reader):
    """The logs of a reader: for each leaf the cells and values on its path."""
    waiting = [(reader, ())]
    found = []
    while waiting:
        part, path = waiting.pop()
        if part == ():
            found.append(tuple(sorted(path)))
        else:
            cell, branches = part
            waiting.extend([(below, path + ((cell, value),)) for value, below in branches])
    return tuple(sorted(found))


def is_reader_of(logs, thing):
    """Whether any object is a reader that has exactly these logs."""
    return is_reader(thing) and logs_of(thing) == logs


def follow(reader, known):
    """The run of the reader on the values of a log: (outcome, cells, cell)."""
    values = dict(known)
    cells = []
    part = reader
    while part != ():
        cell, branches = part
        if cell not in values:
            return "unknown", tuple(cells), cell
        cells.append(cell)
        part = dict(branches).get(values[cell])
        if part is None:
            return "open", tuple(cells), cell
    return "done", tuple(cells), None
