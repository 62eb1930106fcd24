"""Witnesses: for each of some cells, one of the logs of a group that does not have it."""

from readorder.logs import cells_of, is_one_of


def log_without(group, cell):
    """The first log of the group that does not have the cell; there is one."""
    for log in group:
        if cell not in cells_of(log):
            return log


def witnesses_of(group, cells):
    """A tuple with a (cell, log without it) pair for each of the cells."""
    return tuple([(cell, log_without(group, cell)) for cell in cells])


def is_witness(group, cell, thing):
    """Whether any object is the cell and one of the logs of the group without it."""
    if not isinstance(thing, tuple) or len(thing) != 2:
        return False
    return thing[0] == cell and is_one_of(group, thing[1]) and cell not in cells_of(thing[1])


def are_witnesses(group, cells, thing):
    """Whether any object is a tuple with a witness for each of the cells, in their order."""
    if not isinstance(thing, tuple) or len(thing) != len(cells):
        return False
    return all([is_witness(group, cell, witness) for cell, witness in zip(cells, thing)])
