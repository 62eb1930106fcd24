"""Adding a log: whether logs still have a reader together with one more."""

from readorder.groups import has_reader, refuse_stuck, stuck_group


def with_log(logs, log):
    """The logs together with this log, which may be one of them."""
    return logs if log in logs else tuple(sorted([*logs, log]))


def can_add(logs, log):
    """Whether the logs together with this log have a reader."""
    refuse_stuck(logs)
    return has_reader(with_log(logs, log))


def against(logs, log):
    """A minimal stuck group of the logs together with this log, None if there is none."""
    refuse_stuck(logs)
    return stuck_group(with_log(logs, log))
