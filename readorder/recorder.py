"""The recorder: logs that have a reader, and what was done with them."""

from readorder.adding import with_log
from readorder.errors import BadLog, BadLogs, Full, NotALog, NothingToUndo, ReadError
from readorder.groups import reader_for, refuse_stuck, without_log
from readorder.logs import MOST_LOGS, is_log, is_logs, is_one_of


def with_one_more(logs, log):
    """The logs with any object added; raises what is due if it cannot be added."""
    if not is_log(log):
        raise BadLog(log)
    if log in logs:
        return logs
    if len(logs) >= MOST_LOGS:
        raise Full()
    together = with_log(logs, log)
    refuse_stuck(together)
    return together


class Recorder:
    """Logs that have a reader, or none, with the actions that can be taken back."""

    def __init__(self, logs=()):
        if not is_logs(logs):
            raise BadLogs(logs)
        refuse_stuck(logs)
        self.held = logs
        # The logs ahead of each action that was not taken back. No tuple of
        # logs is ever changed, so keeping them is enough.
        self.past = []

    def act(self, logs):
        """Hold these logs from now on, as one action; return how many more they are."""
        more = len(logs) - len(self.held)
        self.past.append(self.held)
        self.held = logs
        return more

    def add(self, log):
        """Add a log; return whether it was new."""
        return self.act(with_one_more(self.held, log)) == 1

    def add_all(self, logs, *, keep=False):
        """Add the logs as one action; return how many were new.

        If one cannot be added, those ahead of it stay only if keep is true.
        """
        together = self.held
        for at, log in enumerate(logs):
            try:
                together = with_one_more(together, log)
            except ReadError:
                if keep and at > 0:
                    self.act(together)
                raise
        return self.act(together)

    def drop(self, log):
        """Remove one of the logs."""
        if not is_one_of(self.held, log):
            raise NotALog(log)
        self.act(without_log(self.held, log))

    def undo(self):
        """Take back the last action that was not taken back."""
        if not self.past:
            raise NothingToUndo()
        self.held = self.past.pop()

    def actions(self):
        """How many actions can be taken back."""
        return len(self.past)

    def logs(self):
        """The logs."""
        return self.held

    def reader(self, *, prefer=()):
        """The reader of the logs as reader_for builds it, None if there are no logs."""
        if not self.held:
            return None
        return reader_for(self.held, prefer=prefer)

    def trial(self, action):
        """What the action returns for this recorder, which is afterwards as before."""
        held, past = self.held, list(self.past)
        try:
            return action(self)
        finally:
            self.held, self.past = held, past

    def clone(self):
        """A separate recorder with the same logs and actions."""
        other = Recorder()
        other.held = self.held
        other.past = list(self.past)
        return other

    def __len__(self):
        return len(self.held)

    def __eq__(self, other):
        return isinstance(other, Recorder) and self.held == other.held
