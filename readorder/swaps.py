"""Swaps: turning round two reads of a reader that follow each other."""

from readorder.errors import BadSwap, DifferentLogs, TooLarge
from readorder.logs import is_integer
from readorder.readers import logs_of

MOST_PAIRS_IN_ALL = 600


def node_at(reader, place):
    """The reader at this place, None if any object is no place in the reader."""
    if not isinstance(place, tuple):
        return None
    part = reader
    for value in place:
        if part == () or not is_integer(value):
            return None
        part = dict(part[1]).get(value)
        if part is None:
            return None
    return part


def is_swappable(part):
    """Whether a reader is a node whose branches all lead to nodes that read one cell."""
    if part == ():
        return False
    # The cell that each branch leads to in a tuple, () for a leaf.
    cells = [below[:1] for value, below in part[1]]
    return cells[0] != () and all([cell == cells[0] for cell in cells])


def turned(part):
    """The reader after a swap of its first node."""
    cell, branches = part
    parts = {}
    for value, (_, lower) in branches:
        for other, below in lower:
            parts.setdefault(other, []).append((value, below))
    first_below = branches[0][1]
    return first_below[0], tuple([(other, (cell, tuple(parts[other]))) for other in sorted(parts)])


def with_part(reader, place, part):
    """The reader with another one at a place in it."""
    above = []
    node = reader
    for value in place:
        above.append((node, value))
        node = dict(node[1])[value]
    whole = part
    for (cell, branches), taken in reversed(above):
        whole = (cell, tuple([(value, whole if value == taken else below) for value, below in branches]))
    return whole


def can_swap(reader, place):
    """Whether any object is a place at which the node can be swapped."""
    part = node_at(reader, place)
    return part is not None and is_swappable(part)


def swapped(reader, place):
    """The whole reader after the swap of the node at this place."""
    if not can_swap(reader, place):
        raise BadSwap(place)
    return with_part(reader, place, turned(node_at(reader, place)))


def after_swaps(reader, swaps):
    """The reader after the swaps at these places, one after the other."""
    part = reader
    for place in swaps:
        part = swapped(part, place)
    return part


def refuse_apart(one, other):
    """Raise DifferentLogs, or TooLarge if their logs have too many pairs."""
    logs = logs_of(one)
    if logs != logs_of(other):
        raise DifferentLogs()
    if sum([len(log) for log in logs]) > MOST_PAIRS_IN_ALL:
        raise TooLarge(MOST_PAIRS_IN_ALL)


def raised_to_top(part, cell, place, swaps):
    """The reader with the cell, which all its logs have, read first.

    The places of the swaps are added to a list; the reader stands at place.
    """
    if part[0] == cell:
        return part
    branches = []
    for value, below in part[1]:
        branches.append((value, raised_to_top(below, cell, place + (value,), swaps)))
    swaps.append(place)
    return turned((part[0], tuple(branches)))


def swaps_between(one, other):
    """A tuple of places of swaps with which the reader one becomes other."""
    refuse_apart(one, other)
    swaps = []
    # Make the first read that of other, then go on below each branch. No two
    # cells of a log are turned round twice so, which keeps the swaps few.
    waiting = [(one, other, ())]
    while waiting:
        part, goal, place = waiting.pop()
        if goal != ():
            part = raised_to_top(part, goal[0], place, swaps)
            for (value, below), (_, aim) in zip(part[1], goal[1]):
                waiting.append((below, aim, place + (value,)))
    return tuple(swaps)


def shows_swaps(one, other, thing):
    """Whether any object is a tuple of places with which the reader one becomes other."""
    if not isinstance(thing, tuple):
        return False
    try:
        return after_swaps(one, thing) == other
    except BadSwap:
        return False
