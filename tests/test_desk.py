"""Point [21]: the desk."""

import unittest
from itertools import product
from random import Random

from readorder import adding, certain, counting, errors, evidence, orders
from readorder.desk import Desk
from readorder.errors import (
    BadCell, BadCommand, BadLog, BadSizes, BadSnapshot, Full, NoLogs, NotALog, NothingToUndo, ReadError, Stuck,
    TooLarge,
)
from readorder.groups import is_minimal_stuck
from readorder.recorder import Recorder
from readorder.texts import show_log, show_logs, show_reader
from tests.brute import all_cells, all_readers, cells_read, readable, readable_families
from tests.support import (
    DEEP_THINGS, LOGS, LONGEST_CHAIN, PAIR, THINGS, TWO, WIDEST, chain_logs, flat_logs, lacking_one, log_of,
    many_logs, name,
    same,
)

FAMILIES = ((), ((),), LOGS, PAIR, TWO, chain_logs(3, 2),
    flat_logs(3, 3)) + tuple(readable_families(25, most=6, seed=95))
ONE_OF_EACH = (
    "add a=2", "drop a=0 b=0", "undo", "logs", "reader", "reader a b", "fits a=3", "orders a=0 b=0",
    "before a b a=0 b=0",
    "rounds a=0 b=0", "hit a=0 b=1", "certain a=0 b=1", "possible a=0 b=1", "readers", "covered a:2 b:2",
)
# Made without the desk: lines that have none of the forms.
BAD_LINES = (
    "", " ", "-", "a=0", "ad a=0", "adds a=0", "Add a=0", "ADD a=0", "add", "add ", " add a=0", "add  a=0", "add a=0 ",
    "add a=0  b=0", "add a=0 a=0", "add b=0 a=0", "add a=00", "add a=1000000001", "add a=0 b", "add - -", "add - a=0",
    "add a",
    "add 0", "add A=0", "add abcdefghi=0", "add a=0\n", "\nadd a=0", "add\na=0", "add a=0\nb=0", "add\ta=0",
    "add a:0", "add .",
    "add=a=0", "drop", "drop ", "drop a", "drop a=0 -", "undo ", "undo a=0", "undo -", "undo undo", "Undo", " undo",
    "undo\n",
    "logs ", "logs -", "logs a=0", "log", "logs\n", "LOGS", "reader ", "reader  a", "reader a ", "reader a  b",
    "reader a=0",
    "reader A", "reader -", "reader abcdefghi", "reader a1", "reader a\n", "reader a,b", "fits", "fits ", "fits yes",
    "orders",
    "orders a", "before", "before a", "before a b", "before a b ", "before a=0", "before a a=0", "before a b c",
    "before a b c=0 ",
    "before a b  c=0", "before  a b c=0", "before a  b c=0", "before A b a=0", "before a B a=0",
    "before a abcdefghi a=0",
    "before a b - -", "before a b b=0 a=0", "before - - -", "before a b c a=0", "before a 0 a=0", "rounds",
    "rounds a", "hit",
    "hit ", "hit a", "hit b=0 a=0", "hit a:0", "certain", "certain a b", "certain a=0 a=1", "possible", "possible a=-1",
    "readers ", "readers a", "readers -", "readers a=0", "covered ", "covered a", "covered a=2", "covered a:",
    "covered :2",
    "covered a:0", "covered a:00", "covered a:02", "covered a:1000000001", "covered a:-1", "covered a:x",
    "covered b:2 a:2",
    "covered a:2 a:2", "covered a:2 a:3", "covered a:2  b:2", "covered a:2 ", "covered  a:2", "covered A:2",
    "covered -",
    "covered abcdefghi:2", "covered a:2 -", "covered a:2,b:2", "covered a:2\n", "covered a:2:2", "covered a: 2",
    "help", "say",
    "add \u00e9=0", "add a=\u0661", "covered a:\u0662", "reader \u00e9", "add a=" + "1" * 5000,
    "covered a:" + "9" * 5000,
    "add " + "a" * 5000, "x" * 20000, " " * 20000, "\n" * 500, "add a=0;b=0", "add a=0; b=0", "logs; logs",
)


def desk_with(logs):
    """A desk to which these logs were told, from the last one on."""
    desk = Desk()
    for log in reversed(logs):
        desk.say("add " + show_log(log))
    return desk


def states_of(desk):
    """What the desk answers, and what after each undo; it takes back all actions."""
    found = []
    while not found or outcome(desk, "undo") == "done":
        found.append((desk.say("logs"), desk.say("reader"), desk.say("readers")))
    return found


def outcome(desk, line):
    """The answer, or the class and the fields of the error."""
    try:
        return desk.say(line)
    except ReadError as error:
        return type(error), repr(vars(error))


class DeskTest(unittest.TestCase):
    def says(self, desk, line, wanted):
        """The answer, twice, by position and by name (for lines that change nothing)."""
        found = desk.say(line)
        self.assertIs(type(found), str)
        self.assertEqual(found, wanted)
        self.assertEqual(desk.say(line=line), wanted)

    def refuses(self, desk, line, wanted, **fields):
        """The error; the desk holds what it held."""
        before = desk.say("logs")
        with self.assertRaises(ReadError) as caught:
            desk.say(line)
        self.assertIs(type(caught.exception), wanted)
        for field, value in fields.items():
            self.assertTrue(same(getattr(caught.exception, field), value))
        self.assertEqual(outcome(desk, line), (wanted, repr(vars(caught.exception))))
        self.assertEqual(desk.say("logs"), before)
        return caught.exception


class ChangeTest(DeskTest):
    def test_add_drop_and_undo(self):
        desk = Desk()
        for line, wanted, logs in (
            ("logs", "none", "none"), ("add a=0 b=1", "new", "a=0 b=1"), ("add a=0 b=1", "known", "a=0 b=1"),
            ("add a=1", "new", "a=0 b=1; a=1"), ("drop a=0 b=1", "done", "a=1"), ("undo", "done", "a=0 b=1; a=1"),
            ("undo", "done", "a=0 b=1"), ("undo", "done", "a=0 b=1"), ("undo", "done", "none"), ("add -", "new", "-"),
            ("add -", "known", "-"), ("drop -", "done", "none"),
        ):
            self.assertEqual(desk.say(line), wanted)
            self.assertEqual(desk.say("logs"), logs)

    def test_by_name(self):
        desk = Desk()
        self.assertEqual(desk.say(line="add a=0"), "new")
        self.assertEqual(desk.say(line="undo"), "done")

    def test_a_new_desk(self):
        for line, wanted in (
            ("logs", "none"), ("reader", "none"), ("reader a", "none"), ("readers", "0"), ("covered", "0"),
            ("covered a:5", "0"),
            ("fits -", "yes"), ("fits a=0", "yes"), ("fits " + show_log(log_of(61)), "yes"),
        ):
            self.says(Desk(), line, wanted)
        for line in ("orders -", "orders a=0", "before a b a=0", "before a a -", "rounds -", "hit -", "certain a=0",
                "possible -"):
            self.assertEqual(vars(self.refuses(Desk(), line, NoLogs)), {})
        for line in ("drop -", "drop a=0"):
            self.refuses(Desk(), line, NotALog)
        self.assertEqual(vars(self.refuses(Desk(), "undo", NothingToUndo)), {})

    def test_desks_are_separate(self):
        one, other = Desk(), Desk()
        one.say("add a=0")
        self.assertEqual(other.say("logs"), "none")

    def test_errors_of_changes(self):
        desk = desk_with(TWO)
        self.refuses(desk, "add " + show_log(log_of(61)), BadLog, log=log_of(61))
        self.refuses(desk, "drop " + show_log(log_of(61)), NotALog, log=log_of(61))
        self.refuses(desk, "drop a=0", NotALog, log=(("a", 0),))
        error = self.refuses(desk, "add -", Stuck)
        self.assertIs(is_minimal_stuck(((),) + TWO, error.group), True)
        for _ in TWO:
            desk.say("undo")
        self.refuses(desk, "undo", NothingToUndo)

    def test_three_hundred_logs(self):
        desk = desk_with(many_logs(300))
        self.refuses(desk, "add a=300", Full)
        self.refuses(desk, "add b=0", Full)
        self.refuses(desk, "add " + show_log(log_of(61)), BadLog)
        self.assertEqual(desk.say("add a=7"), "known")
        self.says(desk, "fits a=300", "yes")
        self.says(desk, "fits b=0", "no")
        self.refuses(desk, "readers", TooLarge, limit=60)
        self.says(desk, "covered a:300", "300")


class QuestionTest(DeskTest):
    """Each line against the function that it names."""

    def test_logs_and_readers(self):
        for logs in FAMILIES:
            desk, cells = desk_with(logs), all_cells(logs)
            self.says(desk, "logs", "; ".join(show_log(log) for log in logs) or "none")
            self.says(desk, "readers", str(len(all_readers(logs)) if logs else 0))
            for prefer in ((), cells[::-1], ("b",), ("zz", "c", "a"), ("a", "a")):
                reader = Recorder(logs).reader(prefer=prefer)
                wanted = "none" if reader is None else show_reader(reader)
                self.says(desk, " ".join(("reader",) + prefer), wanted)

    def test_fits(self):
        answers = set()
        for logs in FAMILIES:
            desk = desk_with(logs)
            for log in logs[:2] + ((), (("a", 0),), (("a", 7),), (("z", 0),), (("a", 1), ("b", 0))):
                wanted = "yes" if adding.can_add(logs, log) else "no"
                self.says(desk, "fits " + show_log(log), wanted)
                self.assertEqual(wanted == "yes", readable(tuple(sorted({*logs, log}))))
                answers.add(wanted)
        self.assertEqual(answers, {"yes", "no"})

    def test_orders_and_rounds(self):
        for logs in FAMILIES:
            desk = desk_with(logs)
            for log in logs:
                text = show_log(log)
                self.says(desk, f"orders {text}", str(orders.count_orders(logs, log)))
                wanted = "; ".join(" ".join(cells) for cells in orders.rounds(logs, log)) or "-"
                self.says(desk, f"rounds {text}", wanted)
        self.says(desk_with(((),)), "rounds -", "-")
        self.says(desk_with(((),)), "orders -", "1")
        self.says(desk_with(PAIR), "rounds a=1 b=1 c=2", "a b; c")

    def test_before(self):
        answers = []
        for logs in FAMILIES:
            desk = desk_with(logs)
            for log in logs:
                for first, later in product(cells_read(log), repeat=2):
                    line = f"before {first} {later} {show_log(log)}"
                    if first == later:
                        self.refuses(desk, line, BadCell, cell=later)
                    else:
                        always = evidence.order_against(logs, log, first, later) is None
                        self.assertIs(always, (first, later) in orders.precedence(logs, log))
                        self.says(desk, line, "yes" if always else "no")
                        answers.append(always)
        self.assertGreater(min(answers.count(True), answers.count(False)), 10)

    def test_snapshots(self):
        for logs in FAMILIES[1:]:
            desk, cells = desk_with(logs), all_cells(logs)
            for values in list(product((0, 1, 2, 7), repeat=len(cells)))[::7]:
                for snapshot in (tuple(zip(cells, values)), tuple(zip(cells, values)) + (("zz", 10 ** 9),)):
                    text = show_log(snapshot)
                    found = certain.hit(logs, snapshot)
                    self.says(desk, f"hit {text}", "none" if found is None else show_log(found))
                    self.says(desk, f"certain {text}", " ".join(certain.certain_reads(logs, snapshot)) or "-")
                    self.says(desk, f"possible {text}", " ".join(certain.possible_reads(logs, snapshot)) or "-")
        empty = desk_with(((),))
        for line in ("hit -", "certain -", "possible -", "hit a=0", "certain a=0 b=5"):
            self.says(empty, line, "-")

    def test_covered(self):
        for logs in FAMILIES:
            desk, cells = desk_with(logs), all_cells(logs)
            for values in list(product((1, 2, 3, 10 ** 9), repeat=len(cells)))[::11]:
                for sizes in (tuple(zip(cells, values)), tuple(zip(cells, values)) + (("zz", 3),)):
                    line = " ".join(["covered"] + [f"{cell}:{size}" for cell, size in sizes])
                    self.says(desk, line, str(counting.covered(logs, sizes)))
        self.says(desk_with(((),)), "covered", "1")
        self.says(desk_with(()), "covered", "0")

    def test_numbers_that_python_does_not_print(self):
        cells = [name(at) for at in range(676)]
        line = " ".join(["covered"] + [f"{cell}:1000000000" for cell in cells])
        self.assertLessEqual(len(line), 20000)
        self.says(desk_with(((),)), line, "1" + "0" * (9 * 676))
        self.says(desk_with((log_of(60),)), line, "1" + "0" * (9 * 616))
        self.says(desk_with((((cells[0], 0),), ((cells[0], 7),))), line, "2" + "0" * (9 * 675))
        self.says(desk_with(flat_logs(60, 12)), "readers", str(counting.count_readers(flat_logs(60, 12))))

    def test_more_than_sixty_cells_in_a_snapshot(self):
        logs = tuple((("a", at),) + tuple((name(26 + 50 * at + below), 1) for below in range(50)) for at in range(5))
        desk = desk_with(logs)
        snapshot = (("a", 3),) + tuple((name(26 + at), 1) for at in range(250))
        self.says(desk, f"hit {show_log(snapshot)}", show_log(logs[3]))
        self.says(desk, f"certain {show_log(snapshot)}", " ".join(cells_read(logs[3])))

    def test_large_logs(self):
        for logs in (WIDEST[:100], LONGEST_CHAIN):
            desk = Desk()
            for log in logs:
                self.assertEqual(desk.say("add " + show_log(log)), "new")
            self.says(desk, "logs", show_logs(logs).replace("\n", "; "))
            self.says(desk, "reader", show_reader(Recorder(logs).reader()))
            self.refuses(desk, "readers", TooLarge, limit=12)
            self.refuses(desk, "orders " + show_log(max(logs, key=len)), TooLarge, limit=12)


class ErrorsTest(DeskTest):
    def test_bad_lines(self):
        for logs in ((), TWO, ((),), WIDEST[:3]):
            desk = desk_with(logs)
            for line in BAD_LINES:
                with self.subTest(line=line[:50]):
                    self.assertEqual(vars(self.refuses(desk, line, BadCommand)), {"line": line})

    def test_one_sign_changed(self):
        asked = 0
        for line in ONE_OF_EACH:
            for at in range(len(line) + 1):
                for sign in " \n=:-0aZ":
                    changed = line[:at] + sign + line[at:]
                    if "  " in changed or changed != changed.strip(" ") or "\n" in changed or "Z" in changed:
                        with self.assertRaises(BadCommand) as caught:
                            desk_with(TWO).say(changed)
                        self.assertEqual(caught.exception.line, changed)
                        asked += 1
                words = (line[:at] + line[at + 1:]).split(" ")[0]
                if words not in {one.split(" ")[0] for one in ONE_OF_EACH}:
                    with self.assertRaises(BadCommand):
                        desk_with(TWO).say(line[:at] + line[at + 1:])
        self.assertGreater(asked, 400)

    def test_a_word_too_many_or_too_few(self):
        for line in ONE_OF_EACH:
            first = line.split(" ")[0]
            for more in ("?", "x=", "=1", "b=0=0", "1", "add"):
                if (first, more) != ("reader", "add"):
                    with self.assertRaises(BadCommand):
                        desk_with(TWO).say(line + " " + more)
            if first not in ("undo", "logs", "reader", "readers", "covered"):
                with self.assertRaises(BadCommand):
                    desk_with(TWO).say(first)

    def test_any_object(self):
        desk = desk_with(TWO)
        for thing in THINGS:
            self.assertEqual(repr(vars(self.refuses(desk, thing, BadCommand))), repr({"line": thing}))
        for thing in DEEP_THINGS + (b"logs", ["logs"], ("logs",), {"logs": 1}, {1: "logs"}):
            with self.assertRaises(BadCommand) as caught:
                desk.say(thing)
            self.assertIs(caught.exception.line, thing)

    def test_bad_command_ahead_of_all_others(self):
        for line in ("drop a=0 ", "orders  a=0", "before a a=0", "hit a=0 b", "covered b:1 a:1", "undo 1",
                "add " + "a=0 " * 61):
            self.assertEqual(self.refuses(Desk(), line, BadCommand).line, line)
        self.refuses(desk_with(many_logs(300)), "add a=300 ", BadCommand)

    def test_not_a_log(self):
        desk = desk_with(LOGS)
        for text, log in (("-", ()), ("a=0", (("a", 0),)), ("a=0 b=1 c=5", (("a", 0), ("b", 1), ("c", 5)))):
            for line in (f"drop {text}", f"orders {text}", f"rounds {text}", f"before a b {text}",
                    f"before q q {text}"):
                self.refuses(desk, line, NotALog, log=log)
        long = show_log(log_of(61))
        for line in (f"orders {long}", f"rounds {long}", f"before a b {long}"):
            self.refuses(desk, line, NotALog, log=log_of(61))

    def test_bad_cell(self):
        desk = desk_with(LOGS)
        for line, cell in (("before q r a=0 b=1", "q"), ("before a q a=0 b=1", "q"), ("before b b a=0 b=1", "b"),
                           ("before c a a=0 b=1", "c"), ("before a c a=0 b=1", "c")):
            self.refuses(desk, line, BadCell, cell=cell)

    def test_bad_snapshot_and_bad_sizes(self):
        desk = desk_with(LOGS)
        for text, snapshot in (("-", ()), ("a=0 b=1", (("a", 0), ("b", 1))),
                ("b=1 c=5 d=5", (("b", 1), ("c", 5), ("d", 5)))):
            for word in ("hit", "certain", "possible"):
                self.refuses(desk, f"{word} {text}", BadSnapshot, snapshot=snapshot)
        for text, sizes in (("", ()), (" a:1 b:1", (("a", 1), ("b", 1))), (" b:1 c:1", (("b", 1), ("c", 1)))):
            self.refuses(desk, f"covered{text}", BadSizes, sizes=sizes)

    def test_too_large(self):
        self.refuses(desk_with((log_of(13),)), f"orders {show_log(log_of(13))}", TooLarge, limit=12)
        self.refuses(desk_with((log_of(13),)), "readers", TooLarge, limit=12)
        self.says(desk_with((log_of(12),)), f"orders {show_log(log_of(12))}", "479001600")
        self.says(desk_with((log_of(12),)), "readers", "479001600")

    def test_stuck(self):
        logs = lacking_one(6)
        desk = Desk()
        added = []
        for log in logs:
            if readable(tuple(sorted({*added, log}))):
                self.assertEqual(desk.say(f"add {show_log(log)}"), "new")
                added.append(log)
            else:
                error = self.refuses(desk, f"add {show_log(log)}", Stuck)
                self.assertIs(is_minimal_stuck(tuple(sorted({*added, log})), error.group), True)
        self.assertLess(len(added), len(logs))

    def test_a_line_that_raised_an_error_was_not_said(self):
        random = Random(96)
        lines = ONE_OF_EACH + BAD_LINES[:40] + ("add a=1", "add -", "add a=1 b=0", "add q=0", "drop a=1", "undo",
            "undo", "add a=0 b=0")
        for _ in range(40):
            one, other = desk_with(TWO), desk_with(TWO)
            for _ in range(40):
                line = random.choice(lines)
                found = outcome(one, line)
                if type(found) is str:
                    self.assertEqual(other.say(line), found)
            self.assertEqual(states_of(one), states_of(other))

    def test_all_errors_are_those_of_the_package(self):
        for line in ONE_OF_EACH + BAD_LINES:
            for logs in FAMILIES[:5]:
                found = outcome(desk_with(logs), line)
                if type(found) is not str:
                    self.assertTrue(issubclass(found[0], errors.ReadError))


class RecorderTest(DeskTest):
    def test_drawn_lines_against_a_recorder(self):
        random = Random(97)
        for _ in range(40):
            desk, book = Desk(), Recorder()
            family = random.choice(FAMILIES[2:])
            for _ in range(40):
                log = random.choice(family) if random.random() < 0.8 else random.choice(((), (("q", 1),), log_of(2)))
                word = random.choice(("add", "add", "add", "drop", "undo"))
                self.assertEqual(outcome(desk, word if word == "undo" else f"{word} {show_log(log)}"),
                    self.done(book, word, log))
                self.assertEqual(desk.say("logs"), show_logs(book.logs()).replace("\n", "; ") or "none")
                reader = book.reader(prefer=("c",))
                self.assertEqual(desk.say("reader c"), "none" if reader is None else show_reader(reader))

    def done(self, book, word, log):
        """The answer that the desk has to give, by a recorder."""
        try:
            if word == "add":
                return "new" if book.add(log) else "known"
            book.undo() if word == "undo" else book.drop(log)
            return "done"
        except ReadError as error:
            return type(error), repr(vars(error))


if __name__ == "__main__":
    unittest.main()
