"""Evidence on certain reads: a path without a cell, or why there is none."""

from readorder.certain import refuse_snapshot
from readorder.errors import BadCell
from readorder.logs import agreeing, are_among, cells_in, is_ascending
from readorder.runs import Run, run_without
from readorder.witnesses import are_witnesses, witnesses_of


def refuse_cell(logs, snapshot, cell):
    """Raise what is due for logs and a snapshot, or BadCell if no log has the cell."""
    refuse_snapshot(logs, snapshot)
    if cell not in cells_in(logs):
        raise BadCell(cell)


def avoiding(logs, snapshot, cell):
    """The (outcome, path) of a reader that does not read the cell, None if each reads it."""
    refuse_cell(logs, snapshot, cell)
    run = run_without(logs, dict(snapshot), (cell,))
    # A run that had to stop ahead of the cell can go on only by reading it.
    if run.ready():
        return None
    return "done" if run.left else "open", tuple(run.done)


def run_along(logs, values, path):
    """A run that has read these objects in their order, None if it cannot."""
    run = Run(logs, values)
    for cell in path:
        if cell not in run.ready():
            return None
        run.read(cell)
    return run


def shows_avoided(logs, snapshot, cell, thing):
    """Whether any object is the (outcome, path) of a reader that does not read the cell."""
    refuse_cell(logs, snapshot, cell)
    if not isinstance(thing, tuple) or len(thing) != 2:
        return False
    outcome, path = thing
    if not isinstance(path, tuple) or cell in path:
        return False
    run = run_along(logs, dict(snapshot), path)
    if run is None:
        return False
    if run.left:
        return outcome == "done" and any([len(table) == len(path) for table in run.left])
    return outcome == "open"


def staying(logs, values, closed):
    """The logs that have all these cells with the values."""
    return agreeing(logs, [(cell, values[cell]) for cell in closed])


def to_witness(logs, closed, cell):
    """The cells of the logs for which evidence has a witness, ascending."""
    return [other for other in cells_in(logs) if other != cell and other not in closed]


def evidence_certain(logs, snapshot, cell):
    """Evidence that each reader reads the cell, None if not each one does."""
    refuse_cell(logs, snapshot, cell)
    values = dict(snapshot)
    run = run_without(logs, values, (cell,))
    if not run.ready():
        return None
    closed = tuple(sorted(run.done))
    return closed, witnesses_of(staying(logs, values, closed), to_witness(logs, closed, cell))


def shows_certain(logs, snapshot, cell, thing):
    """Whether any object is evidence that each reader reads the cell."""
    refuse_cell(logs, snapshot, cell)
    if not isinstance(thing, tuple) or len(thing) != 2:
        return False
    closed, witnesses = thing
    if not are_among(cells_in(logs), closed) or not is_ascending(closed) or cell in closed:
        return False
    group = staying(logs, dict(snapshot), closed)
    # They have all closed cells, so one with more of them has another cell, too.
    if not any([len(log) > len(closed) for log in group]):
        return False
    return are_witnesses(group, to_witness(logs, closed, cell), witnesses)
