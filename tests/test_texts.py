"""Point [20], and [3] (h): logs and readers in writing."""

import re
import unittest

from readorder.errors import BadText
from readorder.groups import reader_for
from readorder.logs import is_logs
from readorder.readers import is_reader
from readorder.texts import parse_log, parse_logs, parse_reader, show_log, show_logs, show_number, show_reader
from tests.brute import all_readers, readable_families, small_families
from tests.support import (
    DEEP_THINGS, LOGS, LONGEST_CHAIN, PAIR, READER, THINGS, TWO, WIDEST, call, chain_logs, log_of, many_logs, name,
    reader_chain, refused, wide_reader,
)

NUMBER = "(?:0|[1-9][0-9]*)"
PAIR_TEXT = f"[a-z]{{1,8}}={NUMBER}"
LOG_TEXT = re.compile(f"-|{PAIR_TEXT}(?: {PAIR_TEXT})*")
SIGNS = "az019 =-.():,;\n\t+_AZ~'%"
SOME_LOGS = (
    (), LOGS[0], LOGS[1], log_of(3), (("abcdefgh", 10 ** 9), ("b", 10 ** 9 - 1), ("zzzzzzzz", 0)), (("a", 10),),
    (("z", 7),),
)
FAMILIES = ((), ((),), LOGS, PAIR, TWO, chain_logs(3, 2)) + tuple(readable_families(12, most=5, seed=91))
# A cell may occur on several paths, in another order on each of them.
CROSSED = ("a", ((0, ("c", ((1, ("b", ((2, ()),))),))), (10, ("b", ((0, ("c", ((1, ()),))), (10 ** 9, ()))))))
READERS = ((), READER, CROSSED, ("abcdefgh", ((10 ** 9, ()),)), reader_chain(3), wide_reader(3))


def plainly_a_log(line):
    """The log that is written so, as the document says; None if none is."""
    if not LOG_TEXT.fullmatch(line):
        return None
    pairs = [] if line == "-" else [pair.split("=") for pair in line.split(" ")]
    if any(len(number) > 10 or int(number) > 10 ** 9 for _, number in pairs):
        return None
    cells = [cell for cell, _ in pairs]
    return tuple((cell, int(number)) for cell, number in pairs) if cells == sorted(set(cells)) else None


def plainly_logs(text):
    """The logs that are written so, or the number of the first line that is wrong."""
    logs = []
    for at, line in enumerate(text.split("\n") if text else ()):
        log = plainly_a_log(line)
        if log is None or len(log) > 60 or at == 300 or (logs and not logs[-1] < log):
            return at
        logs.append(log)
    return tuple(logs)


def plainly_taken(text):
    """A (reader, rest of the text) pair for a text that begins with a reader's, else None."""
    if text.startswith("."):
        return (), text[1:]
    found = re.match("[a-z]{1,8}[(]", text)
    if not found:
        return None
    rest, branches = text[found.end():], []
    while True:
        number = re.match(f"({NUMBER}):", rest)
        taken = number and plainly_taken(rest[number.end():])
        if not taken:
            return None
        branches.append((int(number[1]), taken[0]))
        rest = taken[1][1:]
        if taken[1].startswith(")"):
            return (found[0][:-1], tuple(branches)), rest
        if not taken[1].startswith(" "):
            return None


def plainly_a_reader(text):
    """The reader that is written so, None if none is."""
    taken = plainly_taken(text)
    return taken[0] if taken and taken[1] == "" and is_reader(taken[0]) else None


def plainly_shown(reader):
    """The reader's text, as the document says."""
    if reader == ():
        return "."
    cell, branches = reader
    return cell + "(" + " ".join(f"{value}:{plainly_shown(below)}" for value, below in branches) + ")"


def one_sign_changed(text):
    """The text with one sign left out, replaced, put in or doubled, and with two exchanged."""
    for at in range(len(text) + 1):
        for sign in SIGNS:
            yield text[:at] + sign + text[at:]
            yield text[:at] + sign + text[at + 1:]
        yield text[:at] + text[at + 1:]
        yield text[:at] + text[at:at + 1] + text[at:]
        yield text[:at] + text[at + 1:at + 2] + text[at:at + 1] + text[at + 2:]


class TextsTest(unittest.TestCase):
    def bad(self, function, text, line=0):
        error = refused(self, BadText, function, text=text)
        self.assertEqual(vars(error), {"line": line})

    def check_log(self, text):
        """What parse_log says of a text, against the definition."""
        wanted = plainly_a_log(text)
        if wanted is None or len(wanted) > 60:
            self.bad(parse_log, text)
        else:
            self.assertEqual(call(self, parse_log, text=text), wanted)

    def check_logs(self, text):
        """What parse_logs says of a text, against the definition."""
        wanted = plainly_logs(text)
        if type(wanted) is int:
            self.bad(parse_logs, text, wanted)
        else:
            self.assertEqual(call(self, parse_logs, text=text), wanted)

    def check_reader(self, text):
        """What parse_reader says of a text, against the definition."""
        wanted = plainly_a_reader(text)
        if wanted is None:
            self.bad(parse_reader, text)
        else:
            self.assertEqual(call(self, parse_reader, text=text), wanted)


class ShowTest(TextsTest):
    def test_logs(self):
        for log, text in (
            ((), "-"), ((("a", 0),), "a=0"), (LOGS[1], "a=0 b=2 c=5"),
            ((("abcdefgh", 10 ** 9), ("b", 7)), "abcdefgh=1000000000 b=7"),
        ):
            self.assertEqual(call(self, show_log, log=log), text)
        for logs, text in (
            ((), ""), (((),), "-"), (TWO, "a=0 b=0\na=1 b=1"), (((), (("a", 0),)), "-\na=0"),
        ):
            self.assertEqual(call(self, show_logs, logs=logs), text)

    def test_readers(self):
        for reader in READERS + tuple(reader for logs in FAMILIES if logs for reader in all_readers(logs)[:5]):
            self.assertEqual(call(self, show_reader, reader=reader), plainly_shown(reader))
        self.assertEqual(show_reader(()), ".")
        self.assertEqual(show_reader(("a", ((0, ()), (12, ("b", ((3, ()),)))))), "a(0:. 12:b(3:.))")

    def test_large_readers(self):
        for reader in (reader_chain(60), wide_reader(300), reader_for(WIDEST[:40]), reader_for(LONGEST_CHAIN)):
            self.assertEqual(show_reader(reader), plainly_shown(reader))

    def test_numbers_that_python_does_not_print(self):
        for number in (0, 1, 9, 10 ** 9, 10 ** 59, 10 ** 60 - 1, 10 ** 60, 10 ** 60 + 7, 10 ** 121, 12 ** 3000,
                10 ** 4200):
            self.assertEqual(show_number(number), str(number))
        self.assertEqual(show_number(10 ** 9000), "1" + "0" * 9000)
        self.assertEqual(show_number(10 ** 9000 - 1), "9" * 9000)
        self.assertEqual(show_number(10 ** 9000 + 5), "1" + "0" * 8999 + "5")


class ParsedBackTest(TextsTest):
    def test_logs(self):
        for log in SOME_LOGS + (log_of(60), WIDEST[299], LONGEST_CHAIN[0]):
            self.assertEqual(call(self, parse_log, text=show_log(log)), log)
        for family in small_families():
            self.assertEqual(call(self, parse_logs, text=show_logs(family)), family)

    def test_many_logs(self):
        for logs in FAMILIES + (many_logs(300), WIDEST, LONGEST_CHAIN, (log_of(60),)):
            self.assertEqual(call(self, parse_logs, text=show_logs(logs)), logs)

    def test_readers(self):
        for reader in READERS + tuple(reader for logs in FAMILIES if logs for reader in all_readers(logs)[:20]):
            self.assertEqual(call(self, parse_reader, text=show_reader(reader)), reader)

    def test_large_readers(self):
        both = wide_reader(240)
        for number in reversed(range(26, 85)):
            both = (name(number), ((0, both), (1, ())))
        for reader in (reader_chain(60), wide_reader(300), both, reader_for(WIDEST[:40]), reader_for(LONGEST_CHAIN)):
            self.assertEqual(call(self, parse_reader, text=show_reader(reader)), reader)

    def test_no_two_texts_of_one_thing(self):
        for logs in FAMILIES:
            text = show_logs(logs)
            for other in one_sign_changed(text[:40]):
                if type(plainly_logs(other)) is tuple:
                    self.assertEqual(show_logs(parse_logs(other)), other)


class OneSignTest(TextsTest):
    def test_a_log(self):
        parsed = 0
        for log in SOME_LOGS:
            for text in one_sign_changed(show_log(log)):
                with self.subTest(text=text):
                    self.check_log(text)
                    parsed += plainly_a_log(text) is not None
        self.assertGreater(parsed, 300)

    def test_logs(self):
        counts = {tuple: 0, 0: 0, 1: 0, 2: 0}
        for logs in (((),), LOGS, PAIR, TWO, ((), (("a", 1),), (("a", 1), ("b", 0))),
                tuple(((cell, 1),) for cell in "abc")):
            for text in one_sign_changed(show_logs(logs)):
                with self.subTest(text=text):
                    self.check_logs(text)
                    wanted = plainly_logs(text)
                    counts[tuple if type(wanted) is tuple else min(wanted, 2)] += 1
        self.assertGreater(min(counts.values()), 250)

    def test_a_reader(self):
        parsed = 0
        for reader in READERS:
            for text in one_sign_changed(show_reader(reader)):
                with self.subTest(text=text):
                    self.check_reader(text)
                    parsed += plainly_a_reader(text) is not None
        self.assertGreater(parsed, 300)


class LogTextTest(TextsTest):
    GOOD = ("-", "a=0", "a=10", "a=1000000000", "abcdefgh=5", "a=0 b=0", "a=0 ab=0 b=0", "z=999999999")
    BAD = (
        "", " ", "a", "=", "a=", "=0", "a=00", "a=01", "a=-0", "a=-1", "a=+1", "a=1.0", "a=1e3", "a=1_0",
        "a=1000000001",
        "a=2000000000", "a=10000000000", "a=0 ", " a=0", "a=0  b=0", "a=0 b=0 ", "a =0", "a= 0", "a=0 b", "a=0 -",
        "- a=0", "--",
        "- ", " -", "abcdefghi=0", "A=0", "aB=0", "a1=0", "1=0", "a_b=0", "a=0 a=0", "a=0 a=1", "b=0 a=0", "a=0\tb=0",
        "a==0",
        "a=0=0", "a=0,b=0", "a=0;b=0", "a:0", "a=b", "a=0x1", "\u00e9=0", "a=\u0660", "a=\u00b2", "a=\uff11", "a=0\n",
        "\na=0",
        "a=0\nb=0", "a=0\r", "a=\n0", "-\n", ".", "()", "None", "a=None", "a=True",
    )

    def test_texts(self):
        for text in self.GOOD + self.BAD:
            with self.subTest(text=text):
                self.assertIs(plainly_a_log(text) is None, text in self.BAD)
                self.check_log(text)
                if "\n" not in text and text:
                    self.check_logs(text)
                    self.assertIs(type(plainly_logs(text)) is int, text in self.BAD)

    def test_long_numbers(self):
        for digits in (10, 11, 20, 4000, 4300, 4301, 5000, 19000):
            for sign in "0129":
                self.bad(parse_log, "a=" + sign + "1" * digits)
                self.bad(parse_logs, "a=0\na=" + sign * digits, 1)
                self.bad(parse_reader, "a(" + sign * digits + ":.)")
        self.bad(parse_log, "a=" + "0" * 5000 + "1")
        self.bad(parse_log, "a" * 20000)
        self.bad(parse_log, "a" * 10000 + "=1")

    def test_sixty_pairs_and_one_more(self):
        self.assertEqual(call(self, parse_log, text=show_log(log_of(60))), log_of(60))
        self.bad(parse_log, show_log(log_of(61)))
        self.bad(parse_logs, show_log(log_of(61)))
        self.bad(parse_logs, "-\n" + show_log(log_of(60)) + "\n" + show_log(log_of(61)), 2)
        self.bad(parse_log, show_log(log_of(600)))

    def test_any_object(self):
        for thing in THINGS:
            for function in (parse_log, parse_logs, parse_reader):
                if type(thing) is not str:
                    self.bad(function, thing)
        for thing in THINGS:
            if type(thing) is str:
                self.check_log(thing)
                self.check_logs(thing)
                self.check_reader(thing)
        for thing in DEEP_THINGS + (b"a=0", b"", ["a=0"], ("a=0",), "a=0".split()):
            for function in (parse_log, parse_logs, parse_reader):
                with self.assertRaises(BadText) as caught:
                    function(thing)
                self.assertEqual(caught.exception.line, 0)


class LogsTextTest(TextsTest):
    def test_lines(self):
        for text, wanted in (
            ("", ()), ("-", ((),)), ("-\na=0", ((), (("a", 0),))), ("\n", 0), ("a=0\n", 1), ("\na=0", 0),
            ("a=0\n\na=1", 1),
            ("a=1\na=0", 1), ("a=0\na=0", 1), ("a=0\n-", 1), ("-\n-", 1), ("a=0 b=0\na=0", 1),
            ("a=2\na=10", ((("a", 2),), (("a", 10),))),
            ("a=10\na=2", 1), ("a=0\na=1\na=x\n", 2), ("a=0\nb=0 a=0\n\n", 1), ("x\ny", 0), (" \na=0", 0),
            ("a=0\r\na=1", 0),
            ("b=0\nab=0", 1), ("ab=0\nb=0", ((("ab", 0),), (("b", 0),))), ("a=0\x0ba=1", 0), ("a=0\n ", 1),
            ("a=0 \na=1", 0),
        ):
            with self.subTest(text=text):
                self.assertEqual(plainly_logs(text), wanted)
                self.check_logs(text)

    def test_three_hundred_lines_and_one_more(self):
        self.assertTrue(is_logs(many_logs(300)))
        self.assertEqual(parse_logs(show_logs(many_logs(300))), many_logs(300))
        self.bad(parse_logs, show_logs(many_logs(301)), 300)
        self.bad(parse_logs, show_logs(many_logs(300)) + "\n", 300)
        self.bad(parse_logs, show_logs(many_logs(300)) + "\na=5", 300)
        self.bad(parse_logs, show_logs(many_logs(2000)), 300)
        self.bad(parse_logs, show_logs(many_logs(299)) + "\na=0\nx", 299)
        for at in (0, 1, 150, 299):
            lines = show_logs(many_logs(302)).split("\n")
            lines[at] = "a=01"
            self.bad(parse_logs, "\n".join(lines), at)

    def test_long_texts(self):
        for text in ("-\n" * 10000, "\n" * 20000, " " * 20000, "=" * 20000, "a=1 " * 5000, "-" * 20000):
            self.assertEqual(len(text), 20000)
            self.check_logs(text)
            self.check_log(text)
            self.bad(parse_reader, text)


class ReaderTextTest(TextsTest):
    def test_texts(self):
        good = (".", "a(0:.)", "a(0:. 1:.)", "a(0:b(0:.))", "a(0:b(0:.) 1:b(0:.))", "abcdefgh(1000000000:.)",
            "a(9:. 10:.)")
        bad = (
            "", " ", "a", "a(", "a()", "a(.)", "a(0)", "a(0:)", "a(0:.", "a(0:.))", "a(0:.).", "a(0:.) ", " a(0:.)",
            "a (0:.)",
            "a( 0:.)", "a(0:. )", "a(0 :.)", "a(0: .)", "a(0:.  1:.)", "a(0:.1:.)", "a(0:.,1:.)", "a(1:. 0:.)",
            "a(0:. 0:.)",
            "a(00:.)", "a(01:.)", "a(-1:.)", "a(1000000001:.)", "a(x:.)", "A(0:.)", "abcdefghi(0:.)", "(0:.)",
            "a(0:a(0:.))",
            "a(0:b(0:a(0:.)))", "..", ". .", ".)", "a(0:.)) 1:.)", "(", ")", "a(0:.)a(0:.)", "a(0:.) a(0:.)",
            "a(0:b(0:.)", "a(0:b)",
            "a(0:b())",
            "a(0:(.))", "a(0:..)", "a(0:.:.)", "a(0:0:.)", "a:0(0:.)", "0:.", "0:a(0:.)", "a(0:. 1)", "a(0:. 1:)",
            "a(0:.\n1:.)",
            "a(0:.)\n", "\na(0:.)", "a((0:.))", "a(0:.)(", "a[0:.]", "a(\u0660:.)", "a(0:b(0:.)1:.)", "-", "a=0",
            "()", "a(0:())",
        )
        for text in good + bad:
            with self.subTest(text=text):
                self.assertIs(plainly_a_reader(text) is None, text in bad)
                self.check_reader(text)

    def test_sixty_nodes_and_one_more(self):
        self.assertEqual(call(self, parse_reader, text=plainly_shown(reader_chain(60))), reader_chain(60))
        self.bad(parse_reader, plainly_shown(reader_chain(61)))
        self.bad(parse_reader, plainly_shown(("zz", ((0, ()), (1, reader_chain(60))))))
        self.assertEqual(parse_reader(plainly_shown(("zz", ((0, ()), (1, reader_chain(59)))))),
            ("zz", ((0, ()), (1, reader_chain(59)))))

    def test_three_hundred_leaves_and_one_more(self):
        self.assertEqual(call(self, parse_reader, text=plainly_shown(wide_reader(300))), wide_reader(300))
        self.bad(parse_reader, plainly_shown(wide_reader(301)))
        self.bad(parse_reader, plainly_shown(("b", ((0, wide_reader(150)), (1, wide_reader(151))))))

    def test_nested_thousands_deep(self):
        for deep in (61, 100, 1000, 4000):
            self.bad(parse_reader, "a(0:" * deep + "." + ")" * deep)
            self.bad(parse_reader, "a(0:" * deep)
            self.bad(parse_reader, "a(0:" * deep + ".")
            self.bad(parse_reader, "a(0:" * deep + "." + ")" * (deep - 1))
            self.bad(parse_reader, "a(0:" * deep + "." + ")" * (deep + 1))
            self.bad(parse_reader, "".join(f"{name(at % 676)}(0:" for at in range(deep)) + "." + ")" * deep)
        for text in ("(" * 20000, ")" * 20000, "a(" * 10000, "a(0:" * 5000, "." * 20000, "." + ")" * 19999,
                "a(0:." + ")" * 19995,
                     "(" * 10000 + ")" * 10000, "a(0:. " * 3333 + "..", ". " * 10000, ":" * 20000, "0:" * 10000):
            self.assertEqual(len(text), 20000)
            self.bad(parse_reader, text)
            self.bad(parse_log, text)
            self.bad(parse_logs, text)


if __name__ == "__main__":
    unittest.main()
