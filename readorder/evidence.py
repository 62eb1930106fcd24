"""Evidence on orders: what is always read earlier, and which orders fit together."""

from readorder.building import built_reader
from readorder.errors import BadCell, BadOrder, OrdersClash
from readorder.groups import refuse_unreadable
from readorder.logs import agreeing, are_among, cells_of, is_ascending
from readorder.orders import is_whole_order, refuse_other
from readorder.runs import run_without
from readorder.witnesses import are_witnesses, witnesses_of


def refuse_cells(logs, log, first, later):
    """Raise what is due for a log, or for two cells that are not different ones of it."""
    refuse_other(logs, log)
    cells = cells_of(log)
    for cell in (first, later):
        if cell not in cells:
            raise BadCell(cell)
    if first == later:
        raise BadCell(later)


def order_against(logs, log, first, later):
    """A possible order with later ahead of first, None if there is none."""
    refuse_cells(logs, log, first, later)
    run = run_without(logs, dict(log), (first,))
    if later not in run.done:
        return None
    run.read_on(())
    return tuple(run.done)


def staying(logs, log, cells):
    """The logs that have all these cells with the values of the log."""
    return agreeing(logs, [(cell, value) for cell, value in log if cell in cells])


def to_witness(log, closed, first):
    """The cells of the log for which evidence has a witness, ascending."""
    return [cell for cell in cells_of(log) if cell != first and cell not in closed]


def evidence_of(logs, log, first, later):
    """Evidence that first is always read ahead of later, None if it is not."""
    refuse_cells(logs, log, first, later)
    closed = tuple(sorted(run_without(logs, dict(log), (first,)).done))
    if later in closed:
        return None
    return closed, witnesses_of(staying(logs, log, closed), to_witness(log, closed, first))


def shows_precedence(logs, log, first, later, thing):
    """Whether any object is evidence that first is always read ahead of later."""
    refuse_cells(logs, log, first, later)
    if not isinstance(thing, tuple) or len(thing) != 2:
        return False
    closed, witnesses = thing
    if not are_among(cells_of(log), closed) or not is_ascending(closed):
        return False
    if first in closed or later in closed:
        return False
    return are_witnesses(staying(logs, log, closed), to_witness(log, closed, first), witnesses)


def refuse_orders(logs, orders):
    """Raise what is due for logs, or for orders that are not possible ones of theirs."""
    refuse_unreadable(logs)
    if not isinstance(orders, tuple) or len(orders) != len(logs):
        raise BadOrder(orders)
    for log, order in zip(logs, orders):
        if not is_whole_order(logs, log, order):
            raise BadOrder(order)


def in_order(log, order):
    """The log as a dict, with its cells in the order."""
    values = dict(log)
    return {cell: values[cell] for cell in order}


def fits(one, other):
    """Whether two logs in order have the same cells up to the first that differs."""
    for cell, after in zip(one, other):
        if cell != after:
            return False
        if one[cell] != other[cell]:
            return True
    return True


def clash_of(tables):
    """The least pair of places of logs in order that do not fit, None if all fit."""
    for one in range(len(tables)):
        for other in range(one + 1, len(tables)):
            if not fits(tables[one], tables[other]):
                return one, other
    return None


def orders_fit(logs, orders):
    """Whether one reader has all these orders, one for each log."""
    refuse_orders(logs, orders)
    return clash_of([in_order(log, order) for log, order in zip(logs, orders)]) is None


def reader_with(logs, orders):
    """The reader that has all these orders, one for each log."""
    refuse_orders(logs, orders)
    tables = [in_order(log, order) for log, order in zip(logs, orders)]
    clash = clash_of(tables)
    if clash is not None:
        raise OrdersClash(clash[0], clash[1])
    return built_reader(tables)
