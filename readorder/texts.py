"""Texts: logs and readers in writing."""

from readorder.errors import BadText
from readorder.logs import LARGEST_VALUE, MOST_LOGS, MOST_PAIRS, is_listing
from readorder.readers import is_reader

MOST_DIGITS = 10
PORTION_DIGITS = 60
PORTION = 10 ** 60


def number_in(word):
    """The value that is written so, None if none is."""
    # Longer numbers are above the largest value, and Python refuses to read
    # those that are very long.
    if not 1 <= len(word) <= MOST_DIGITS or not all(["0" <= sign <= "9" for sign in word]):
        return None
    if word.startswith("0") and word != "0":
        return None
    number = int(word)
    return number if number <= LARGEST_VALUE else None


def pair_in(word, sign):
    """What stands ahead of the sign, and the value behind it, None if none is written there."""
    cell, _, number = word.partition(sign)
    return cell, number_in(number)


def log_in(text):
    """The log, of however many pairs, that is written so, None if none is."""
    if text == "-":
        return ()
    log = tuple([pair_in(word, "=") for word in text.split(" ")])
    return log if is_listing(log) else None


def show_number(number):
    """The number in decimal, without leading zeros."""
    # Python refuses to write more than some thousand digits at once.
    digits = ""
    rest = number
    while rest >= PORTION:
        rest, low = divmod(rest, PORTION)
        digits = str(low).zfill(PORTION_DIGITS) + digits
    return str(rest) + digits


def show_log(log):
    """The text of a log."""
    return " ".join([f"{cell}={value}" for cell, value in log]) or "-"


def show_logs(logs):
    """The text of logs: a line for each of them."""
    return "\n".join([show_log(log) for log in logs])


def show_reader(reader):
    """The text of a reader."""
    signs = []
    # What is still to be written, the next at the end: readers, and strings
    # that stand as they are.
    waiting = [reader]
    while waiting:
        part = waiting.pop()
        if isinstance(part, str):
            signs.append(part)
        elif part == ():
            signs.append(".")
        else:
            cell, branches = part
            signs.append(cell)
            waiting.append(")")
            for value, below in reversed(branches[1:]):
                waiting.extend([below, f" {value}:"])
            value, below = branches[0]
            waiting.extend([below, f"({value}:"])
    return "".join(signs)


def parse_log(text):
    """The log that is written so."""
    log = log_in(text) if isinstance(text, str) else None
    if log is None or len(log) > MOST_PAIRS:
        raise BadText(0)
    return log


def parse_logs(text):
    """The logs that are written so."""
    if not isinstance(text, str):
        raise BadText(0)
    if text == "":
        return ()
    logs = []
    for at, line in enumerate(text.split("\n")):
        log = log_in(line)
        if log is None or len(log) > MOST_PAIRS or at == MOST_LOGS:
            raise BadText(at)
        if at > 0 and log <= logs[-1]:
            raise BadText(at)
        logs.append(log)
    return tuple(logs)


class ReaderText:
    """A reader's text, as far as it was taken in, word by word."""

    def __init__(self):
        # The nodes that are not closed, outermost first, each as (value ahead
        # of it, cell, branches so far).
        self.opened = []
        self.whole = None

    def take(self, word):
        """Take in one word, "cell(" or "." with brackets that close; whether it can stand here."""
        if self.whole is not None:
            return False
        value, rest = None, word
        if self.opened:
            number, _, rest = word.partition(":")
            value = number_in(number)
            if value is None:
                return False
        if rest.endswith("("):
            self.opened.append((value, rest[:-1], []))
            return True
        leaf = rest.rstrip(")")
        return leaf == "." and self.close(value, len(rest) - len(leaf))

    def close(self, value, many):
        """Put in a leaf and close so many nodes; whether as many are open."""
        if many > len(self.opened):
            return False
        part = ()
        for _ in range(many):
            above, cell, branches = self.opened.pop()
            branches.append((value, part))
            value, part = above, (cell, tuple(branches))
        if self.opened:
            self.opened[-1][2].append((value, part))
        else:
            self.whole = part
        return True


def reader_in(text):
    """What is written as a reader is, whatever its cells and bounds; None if nothing is."""
    taken = ReaderText()
    # So each node's "cell(" is a word, and so is each leaf.
    for word in text.replace("(", "( ").split(" "):
        if not taken.take(word):
            return None
    return taken.whole


def parse_reader(text):
    """The reader that is written so."""
    reader = reader_in(text) if isinstance(text, str) else None
    if not is_reader(reader):
        raise BadText(0)
    return reader
