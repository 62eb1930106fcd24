"""The desk: a recorder that is asked in lines of text."""

from readorder.adding import can_add
from readorder.certain import certain_reads, hit, possible_reads
from readorder.counting import are_sizes, count_readers, covered
from readorder.errors import BadCommand
from readorder.evidence import order_against
from readorder.logs import is_cell
from readorder.orders import count_orders, rounds
from readorder.recorder import Recorder
from readorder.texts import log_in, pair_in, show_log, show_logs, show_number, show_reader


# What stands behind the first word of a line: a tuple of what is written
# there, None if a line cannot go on like this.


def no_words(words):
    """Nothing."""
    return None if words else ()


def one_log(words):
    """A log, or a snapshot, which is written in the same way."""
    log = log_in(" ".join(words))
    return None if log is None else (log,)


def some_cells(words):
    """Cells, or none."""
    return (tuple(words),) if all([is_cell(word) for word in words]) else None


def two_cells_and_log(words):
    """A cell, another one and a log."""
    log = log_in(" ".join(words[2:]))
    if log is None or not is_cell(words[0]) or not is_cell(words[1]):
        return None
    return words[0], words[1], log


def some_sizes(words):
    """Sizes, or none."""
    sizes = tuple([pair_in(word, ":") for word in words])
    return (sizes,) if are_sizes(sizes) else None


# What is answered, with a recorder and what stands behind the first word.


def spaced(cells):
    """The text of cells."""
    return " ".join(cells) or "-"


def yes_or_no(holds):
    """The text of an answer."""
    return "yes" if holds else "no"


def say_add(book, log):
    """Add a log."""
    return "new" if book.add(log) else "known"


def say_drop(book, log):
    """Remove a log."""
    book.drop(log)
    return "done"


def say_undo(book):
    """Take back the last action."""
    book.undo()
    return "done"


def say_logs(book):
    """The logs."""
    return show_logs(book.logs()).replace("\n", "; ") or "none"


def say_reader(book, prefer):
    """The reader of the logs."""
    reader = book.reader(prefer=prefer)
    return "none" if reader is None else show_reader(reader)


def say_fits(book, log):
    """Whether a log can be added."""
    return yes_or_no(can_add(book.logs(), log))


def say_orders(book, log):
    """How many possible orders a log has."""
    return show_number(count_orders(book.logs(), log))


def say_before(book, first, later, log):
    """Whether the first cell is always read ahead of the second one."""
    return yes_or_no(order_against(book.logs(), log, first, later) is None)


def say_rounds(book, log):
    """The rounds of a log."""
    return "; ".join([spaced(cells) for cells in rounds(book.logs(), log)]) or "-"


def say_hit(book, snapshot):
    """The log that a snapshot agrees with."""
    log = hit(book.logs(), snapshot)
    return "none" if log is None else show_log(log)


def say_certain(book, snapshot):
    """The cells that are always read on a snapshot."""
    return spaced(certain_reads(book.logs(), snapshot))


def say_possible(book, snapshot):
    """The cells that can be read on a snapshot."""
    return spaced(possible_reads(book.logs(), snapshot))


def say_readers(book):
    """How many readers there are."""
    return show_number(count_readers(book.logs()))


def say_covered(book, sizes):
    """How many assignments the logs cover."""
    return show_number(covered(book.logs(), sizes))


FORMS = {
    "add": one_log,
    "drop": one_log,
    "undo": no_words,
    "logs": no_words,
    "reader": some_cells,
    "fits": one_log,
    "orders": one_log,
    "before": two_cells_and_log,
    "rounds": one_log,
    "hit": one_log,
    "certain": one_log,
    "possible": one_log,
    "readers": no_words,
    "covered": some_sizes,
}
ANSWERS = {
    "add": say_add,
    "drop": say_drop,
    "undo": say_undo,
    "logs": say_logs,
    "reader": say_reader,
    "fits": say_fits,
    "orders": say_orders,
    "before": say_before,
    "rounds": say_rounds,
    "hit": say_hit,
    "certain": say_certain,
    "possible": say_possible,
    "readers": say_readers,
    "covered": say_covered,
}


def written_in(line):
    """The tuple of what stands behind the first word, None for any object that is no command."""
    if not isinstance(line, str):
        return None
    words = line.split(" ")
    if words[0] not in FORMS:
        return None
    form = FORMS[words[0]]
    return form(words[1:])


class Desk:
    """A recorder, without logs at first, that is asked in lines of text."""

    def __init__(self):
        self.book = Recorder()

    def say(self, line):
        """The answer to a line."""
        written = written_in(line)
        if written is None:
            raise BadCommand(line)
        answer = ANSWERS[line.split(" ")[0]]
        return answer(self.book, *written)
