"""Runs of readers: what can be read next, and which logs are still left."""


class Run:
    """A run on some values, as far as it has read; the logs have a reader.

    What it can read next depends on which cells it has read, not on their
    order, and reading more takes nothing away as long as a log is left. So
    reading on in any order finds all that can be read at all.
    """

    def __init__(self, logs, known):
        """known has a value for each cell that can be read."""
        self.known = known
        self.done = {}
        self.left = [dict(log) for log in logs]
        self.counts = {}
        for table in self.left:
            for cell in table:
                self.counts[cell] = self.counts.get(cell, 0) + 1

    def ready(self):
        """The cells that can be read next, ascending; none if no log is left."""
        if not self.left:
            return []
        many = len(self.left)
        return [cell for cell in self.left[0] if self.counts[cell] == many and cell not in self.done]

    def read(self, cell):
        """Read a cell that can be read next."""
        self.done[cell] = True
        stay = []
        for table in self.left:
            if table[cell] == self.known[cell]:
                stay.append(table)
            else:
                for other in table:
                    self.counts[other] -= 1
        self.left = stay

    def read_on(self, avoid):
        """Read on, without the cells of avoid, as long as that is possible."""
        barred = {cell: True for cell in avoid}
        ready = [cell for cell in self.ready() if cell not in barred]
        while ready:
            self.read(ready[0])
            ready = [cell for cell in self.ready() if cell not in barred]


def run_without(logs, known, avoid):
    """A run on these values that has read as much as it can without the cells of avoid."""
    run = Run(logs, known)
    run.read_on(avoid)
    return run
