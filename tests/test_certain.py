"""Point [11], and [3] (d): what readers must and can read on a snapshot."""

import unittest
from itertools import product
from random import Random

from readorder.certain import certain_reads, hit, is_snapshot, possible_reads
from readorder.errors import BadSnapshot, NoLogs, Stuck
from readorder.groups import is_minimal_stuck
from tests.brute import (
    all_cells, all_readers, log_orders, path_on, random_reader, readable, readable_families, shared,
)
from tests.support import (
    CYCLE, DEEP_THINGS, LETTERS, LOGS, LONGEST_CHAIN, PAIR, THINGS, TWO, WIDEST, call, chain_logs, changed,
    flat_logs, log_of, lacking_one, many_logs, name, refused, same,
)

FAMILIES = tuple(
    logs for logs in (
        (LOGS, PAIR, TWO, ((),), ((("a", 1), ("b", 0)),), (log_of(4),), chain_logs(3, 2), flat_logs(3, 3))
        + tuple(readable_families(60, most=6, seed=11)) + tuple(readable_families(60, "abc", 3, 3, 7, seed=12))
    )
    if len(all_readers(logs)) <= 150
)
# With one value that no log has.
VALUES = (0, 1, 2, 7)


def snapshots_of(logs, most=64):
    """Snapshots of the logs, with values that the logs have and one that they do not have."""
    cells = all_cells(logs)
    found = [tuple(zip(cells, values)) for values in product(VALUES, repeat=len(cells))]
    return found[::1 + len(found) // most] + [snapshot for log in logs for snapshot in around(log, cells)]


def around(log, cells):
    """Snapshots that agree with the log, and with it but for one of its cells."""
    values = {cell: 0 for cell in cells} | dict(log)
    yield tuple(sorted(values.items()))
    for cell in dict(log):
        yield tuple(sorted((values | {cell: values[cell] + 1}).items()))


def with_more(snapshot):
    """The snapshot with cells that no log has."""
    return tuple(sorted(snapshot + (("aaa", 0), ("zzz", 10 ** 9))))


def plainly_a_snapshot(logs, thing):
    """What the document says of a snapshot, word by word."""
    if type(thing) is not tuple:
        return False
    for pair in thing:
        if type(pair) is not tuple or len(pair) != 2:
            return False
        if type(pair[0]) is not str or type(pair[1]) is not int:
            return False
        if len(pair[0]) not in range(1, 9) or set(pair[0]) - set(LETTERS) or not 0 <= pair[1] <= 10 ** 9:
            return False
    cells = [pair[0] for pair in thing]
    return sorted(set(cells)) == cells and set(cells) >= set(all_cells(logs))


class IsSnapshotTest(unittest.TestCase):
    def check(self, logs, thing):
        self.assertIs(call(self, is_snapshot, logs=logs, thing=thing), plainly_a_snapshot(logs, thing))

    def test_snapshots_of_all_families(self):
        for logs in FAMILIES:
            for snapshot in snapshots_of(logs, 8):
                with self.subTest(logs=logs, snapshot=snapshot):
                    self.assertIs(call(self, is_snapshot, logs=logs, thing=snapshot), True)
                    self.assertIs(call(self, is_snapshot, logs=logs, thing=with_more(snapshot)), True)

    def test_each_cell_of_the_logs_is_needed(self):
        for logs in FAMILIES:
            for snapshot in snapshots_of(logs, 2):
                for at in range(len(snapshot)):
                    thing = snapshot[:at] + snapshot[at + 1:]
                    self.assertIs(is_snapshot(logs, thing), False)
                    self.assertIs(is_snapshot(logs, with_more(thing)), False)

    def test_changed_snapshots(self):
        for logs in (LOGS, PAIR, TWO, CYCLE, ((),), ()):
            for thing in changed((("a", 0), ("b", 1), ("c", 10 ** 9))):
                with self.subTest(logs=logs, thing=thing):
                    self.check(logs, thing)

    def test_any_object(self):
        for logs in (LOGS, TWO, CYCLE, ((("a", 0),),), ((),), ()):
            for thing in THINGS:
                with self.subTest(logs=logs, thing=thing):
                    self.check(logs, thing)
            for thing in DEEP_THINGS:
                for snapshot in (thing, (thing,), (("a", thing),), (("a", 0), thing), ((thing, 0),)):
                    self.assertIs(is_snapshot(logs, snapshot), False)

    def test_edges_of_pairs(self):
        logs = ((("b", 0),),)
        for pair, wanted in (
            (("a", 10 ** 9), True), (("a", 10 ** 9 + 1), False), (("a", -1), False), (("a", True), False),
            (("abcdefgh", 0), True), (("abcdefghi", 0), False), (("", 0), False), (("A", 0), False), (("b", 0), False),
        ):
            self.assertIs(call(self, is_snapshot, logs=logs, thing=(pair, ("b", 0))), wanted)
        self.assertIs(is_snapshot(logs, (("b", 0), ("a", 0))), False)
        self.assertIs(is_snapshot(logs, (("b", 0), ("b", 1))), False)

    def test_as_many_cells_as_needed(self):
        snapshot = tuple((name(at), 0) for at in range(676))
        self.assertIs(call(self, is_snapshot, logs=(log_of(60),), thing=snapshot), True)
        self.assertIs(is_snapshot((log_of(60),), snapshot[1:]), False)
        self.assertIs(is_snapshot((), snapshot), True)


class AllReadersTest(unittest.TestCase):
    """The functions against the paths of all readers, listed here."""

    def test_certain_and_possible_reads(self):
        asked = 0
        for logs in FAMILIES:
            readers = all_readers(logs)
            for snapshot in snapshots_of(logs):
                paths = [set(path_on(reader, snapshot)) for reader in readers]
                certain = tuple(sorted(set.intersection(*paths)))
                possible = tuple(sorted(set.union(*paths)))
                for given in (snapshot, with_more(snapshot)):
                    with self.subTest(logs=logs, snapshot=given):
                        self.assertEqual(call(self, certain_reads, logs=logs, snapshot=given), certain)
                        self.assertEqual(call(self, possible_reads, logs=logs, snapshot=given), possible)
                asked += 1
        self.assertGreater(asked, 2000)

    def test_what_is_certain_and_what_not(self):
        counts = {"all": 0, "some": 0, "none": 0}
        for logs in FAMILIES:
            for snapshot in snapshots_of(logs):
                certain, possible = certain_reads(logs, snapshot), possible_reads(logs, snapshot)
                self.assertLessEqual(set(certain), set(possible))
                counts["none" if not certain else "all" if certain == possible else "some"] += 1
        self.assertGreater(min(counts.values()), 100)

    def test_hit(self):
        hits = 0
        for logs in FAMILIES:
            for snapshot in snapshots_of(logs):
                found = [log for log in logs if set(log) <= set(snapshot)]
                self.assertLessEqual(len(found), 1)
                with self.subTest(logs=logs, snapshot=snapshot):
                    wanted = found[0] if found else None
                    self.assertEqual(call(self, hit, logs=logs, snapshot=snapshot), wanted)
                    self.assertEqual(hit(logs, with_more(snapshot)), wanted)
                    hits += len(found)
        self.assertGreater(hits, 500)

    def test_a_snapshot_that_agrees_with_a_log(self):
        for logs in FAMILIES:
            for log in logs:
                for snapshot in list(around(log, all_cells(logs)))[:1]:
                    cells = tuple(cell for cell, _ in log)
                    self.assertEqual(hit(logs, snapshot), log)
                    self.assertEqual(certain_reads(logs, snapshot), cells)
                    self.assertEqual(possible_reads(logs, snapshot), cells)

    def test_programs_with_more_logs_read_the_certain_cells(self):
        random = Random(13)
        asked = 0
        for _ in range(150):
            reader = random_reader(random, tuple("abcd"), 4, 3)
            logs = tuple(sorted(log for log, _ in log_orders(reader)))
            for _ in range(3):
                fewer = tuple(sorted(random.sample(logs, random.randint(1, len(logs)))))
                self.assertTrue(readable(fewer))
                for snapshot in snapshots_of(logs, 12):
                    path = path_on(reader, snapshot)
                    self.assertLessEqual(set(certain_reads(fewer, snapshot)), set(path))
                    asked += 1
        self.assertGreater(asked, 2000)


class EndsTest(unittest.TestCase):
    def both(self, logs, snapshot):
        certain = call(self, certain_reads, logs=logs, snapshot=snapshot)
        return certain, call(self, possible_reads, logs=logs, snapshot=snapshot)

    def test_unseen_values(self):
        self.assertEqual(self.both(TWO, (("a", 3), ("b", 3))), ((), ("a", "b")))
        self.assertEqual(self.both(TWO, (("a", 0), ("b", 3))), (("b",), ("a", "b")))
        self.assertEqual(self.both(LOGS, (("a", 5), ("b", 5), ("c", 5))), (("a",), ("a",)))

    def test_the_open_cell_is_read(self):
        self.assertEqual(self.both(((("a", 0),),), (("a", 1),)), (("a",), ("a",)))

    def test_a_run_that_ends_reads_no_more(self):
        logs = ((("a", 0), ("b", 0), ("c", 0)), (("a", 0), ("b", 1), ("d", 0)))
        self.assertEqual(self.both(logs, (("a", 5), ("b", 0), ("c", 0), ("d", 0))), (("a",), ("a", "b", "c")))
        self.assertEqual(self.both(logs, (("a", 5), ("b", 5), ("c", 0), ("d", 0))), ((), ("a", "b")))

    def test_the_empty_log(self):
        for snapshot in ((), (("a", 0),), (("a", 5), ("b", 0))):
            self.assertEqual(self.both(((),), snapshot), ((), ()))
            self.assertEqual(call(self, hit, logs=((),), snapshot=snapshot), ())

    def test_possible_cells_of_runs_that_exclude_each_other(self):
        logs = tuple(sorted((
            (("a", 0), ("b", 0), ("x", 0)), (("a", 0), ("b", 1), ("x", 0), ("y", 0)), (("a", 1), ("b", 1), ("y", 0)),
        )))
        snapshot = (("a", 0), ("b", 2), ("x", 0), ("y", 0))
        paths = [set(path_on(reader, snapshot)) for reader in all_readers(logs)]
        self.assertEqual(possible_reads(logs, snapshot), tuple(sorted(set.union(*paths))))
        self.assertEqual(shared(logs), ("a", "b"))


class ErrorsTest(unittest.TestCase):
    CALLS = (hit, certain_reads, possible_reads)

    def refuse(self, error_class, **arguments):
        errors = [refused(self, error_class, function, **arguments) for function in self.CALLS]
        self.assertTrue(all(same(vars(error), vars(errors[0])) for error in errors))
        return errors[0]

    def test_no_logs_first(self):
        for snapshot in ((), (("a", 0),), None, {}, "a"):
            self.assertEqual(vars(self.refuse(NoLogs, logs=(), snapshot=snapshot)), {})

    def test_stuck_then(self):
        for snapshot in ((), (("a", 0), ("b", 0), ("c", 0)), None, [], True):
            for logs in (CYCLE, ((), (("a", 0),)), lacking_one(5)):
                error = self.refuse(Stuck, logs=logs, snapshot=snapshot)
                self.assertIs(is_minimal_stuck(logs, error.group), True)

    def test_bad_snapshot_then(self):
        wrong = (None, (), {}, 0, [("a", 0), ("b", 0), ("c", 0)], (("a", 0),), (("a", 0), ("b", True), ("c", 0)))
        for logs in (LOGS, TWO, PAIR):
            for thing in wrong:
                error = self.refuse(BadSnapshot, logs=logs, snapshot=thing)
                self.assertEqual(repr(vars(error)), repr({"snapshot": thing}))

    def test_any_object(self):
        for thing in THINGS + tuple(changed((("a", 0), ("b", 1)))):
            if not plainly_a_snapshot(TWO, thing):
                self.assertEqual(repr(self.refuse(BadSnapshot, logs=TWO, snapshot=thing).snapshot), repr(thing))
        for thing in DEEP_THINGS:
            for function in self.CALLS:
                for snapshot in (thing, (thing,), (("a", thing), ("b", 0)), (("a", 0), ("b", 0), thing)):
                    with self.assertRaises(BadSnapshot) as caught:
                        function(TWO, snapshot)
                    self.assertIs(caught.exception.snapshot, snapshot)


class ManyCellsTest(unittest.TestCase):
    def test_a_chain(self):
        cells = all_cells(LONGEST_CHAIN)
        for value, end in ((0, 59), (3, 59), (9, 59), (2, 30), (9, 30), (9, 0)):
            snapshot = tuple((cell, value if at >= end else 0) for at, cell in enumerate(cells)) + (("zz", 1),)
            self.assertEqual(call(self, certain_reads, logs=LONGEST_CHAIN, snapshot=snapshot), cells[:end + 1])
            self.assertEqual(call(self, possible_reads, logs=LONGEST_CHAIN, snapshot=snapshot), cells[:end + 1])
            found = call(self, hit, logs=LONGEST_CHAIN, snapshot=snapshot)
            wanted = tuple((cell, 0) for cell in cells[:end]) + ((cells[end], value),)
            self.assertEqual(found, wanted if value in (2, 3) else None)

    def test_all_cells_at_once(self):
        cells = all_cells(WIDEST)
        for snapshot, certain in (
            (tuple((cell, 299) for cell in cells), cells),
            (tuple((cell, 300) for cell in cells), ()),
            (tuple((cell, at) for at, cell in enumerate(cells)), ()),
            (tuple((cell, 5) for cell in cells[:-1]) + ((cells[-1], 6),), cells[-1:]),
        ):
            self.assertEqual(call(self, possible_reads, logs=WIDEST, snapshot=snapshot), cells)
            self.assertEqual(call(self, certain_reads, logs=WIDEST, snapshot=snapshot), certain)
        self.assertEqual(call(self, hit, logs=WIDEST, snapshot=WIDEST[150]), WIDEST[150])

    def test_many_logs(self):
        logs = many_logs(300)
        for value, wanted in ((0, (("a", 0),)), (299, (("a", 299),)), (300, None)):
            self.assertEqual(call(self, hit, logs=logs, snapshot=(("a", value),)), wanted)
            self.assertEqual(certain_reads(logs, (("a", value),)), ("a",))
            self.assertEqual(possible_reads(logs, (("a", value),)), ("a",))

    def test_many_different_cells(self):
        logs = tuple(
            (("a", value),) + tuple((name(26 + (value * 7 + at) % 600), 0) for at in range(9)) for value in range(300)
        )
        logs = tuple(tuple(sorted(log)) for log in logs)
        snapshot = (("a", 17),) + tuple((name(at), 0) for at in range(26, 626))
        self.assertEqual(call(self, certain_reads, logs=logs, snapshot=snapshot), tuple(sorted(dict(logs[17]))))


if __name__ == "__main__":
    unittest.main()
