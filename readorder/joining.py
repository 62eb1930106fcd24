"""Joining and inlining: the logs of programs that run together."""

from readorder.errors import BadResults, NotALog
from readorder.groups import refuse_stuck
from readorder.logs import agrees, are_pairs, differing, is_ascending, is_listing, is_value, value_in


def join_of(one, other):
    """The log with the pairs of both logs, which are joinable."""
    pairs, more = dict(one), dict(other)
    both = {**pairs, **more}
    return tuple(sorted(both.items()))


def joins(logs, other):
    """The joins of each of the logs with another log, where they are joinable."""
    return [join_of(log, other) for log in logs if not differing(log, other)]


def parts_of(logs, whole):
    """Those of the logs that have no pair but those of the whole, any tuple of pairs."""
    return [log for log in logs if agrees(whole, log)]


def joined(one, other):
    """The ascending tuple of the joins of all joinable pairs of two programs' logs."""
    refuse_stuck(one)
    refuse_stuck(other)
    found = []
    for log in other:
        found.extend(joins(one, log))
    return tuple(sorted(found))


def join_source(one, other, log):
    """The (log of one, log of other) pair whose join the log is."""
    refuse_stuck(one)
    refuse_stuck(other)
    if are_pairs(log):
        for first in parts_of(one, log):
            for second in parts_of(other, log):
                if join_of(first, second) == log:
                    return first, second
    raise NotALog(log)


def is_result(thing):
    """Whether any object is a log and the value that a run with this log has returned."""
    return isinstance(thing, tuple) and len(thing) == 2 and is_listing(thing[0]) and is_value(thing[1])


def logs_in(results):
    """The logs of the results."""
    return tuple([log for log, result in results])


def are_results(thing):
    """Whether any object is results."""
    if not isinstance(thing, tuple) or not all([is_result(entry) for entry in thing]):
        return False
    # Ascending logs mean both: ascending results, and no two of one log.
    return is_ascending(logs_in(thing))


def refuse_results(outer, cell, results):
    """Raise BadResults if any object is no results without the cell, then Stuck."""
    if not are_results(results) or any([value_in(log, cell) is not None for log in logs_in(results)]):
        raise BadResults(results)
    refuse_stuck(outer)
    refuse_stuck(logs_in(results))


def without_pair(log, cell):
    """The log without the pair of the cell."""
    return tuple([pair for pair in log if pair[0] != cell])


def returning(results, value):
    """Those of the results that return the value."""
    return [(log, result) for log, result in results if result == value]


def inlined(outer, cell, results):
    """The logs of a program that computes the cell as another program has done."""
    refuse_results(outer, cell, results)
    found = []
    for log in outer:
        value = value_in(log, cell)
        if value is None:
            found.append(log)
        else:
            found.extend(joins(logs_in(returning(results, value)), without_pair(log, cell)))
    return tuple(sorted(found))


def inlined_part(log, cell, results, whole):
    """The one of the results that, inlined in an outer log with the cell, gives the whole.

    None if there is none.
    """
    rest = without_pair(log, cell)
    for inner, result in returning(results, value_in(log, cell)):
        if agrees(whole, rest) and join_of(rest, inner) == whole:
            return inner, result
    return None


def inline_source(outer, cell, results, log):
    """The outer log and the result, None if it needs none, that the log is made of."""
    refuse_results(outer, cell, results)
    if are_pairs(log):
        for whole in outer:
            if value_in(whole, cell) is None:
                if whole == log:
                    return whole, None
            else:
                part = inlined_part(whole, cell, results, log)
                if part is not None:
                    return whole, part
    raise NotALog(log)
