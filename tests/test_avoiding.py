"""Point [12], and [3] (d): which cells can be avoided on a snapshot, and what shows it."""

import unittest
from itertools import chain, combinations, islice, permutations, product
from random import Random

from readorder.avoiding import avoiding, evidence_certain, shows_avoided, shows_certain
from readorder.certain import certain_reads
from readorder.errors import BadCell, BadSnapshot, NoLogs, Stuck
from readorder.groups import is_minimal_stuck
from tests.brute import agree_on, all_cells, all_readers, cells_read, readable_families, run_on
from tests.support import (
    CYCLE, DEEP_THINGS, LOGS, LONGEST_CHAIN, PAIR, THINGS, TWO, WIDEST, call, chain_logs, changed, flat_logs,
    lacking_one, log_of, name, refused, same,
)

FAMILIES = tuple(
    logs for logs in (
        (LOGS, PAIR, TWO, ((("a", 1), ("b", 0)),), (log_of(4),), chain_logs(3, 2), flat_logs(3, 3))
        + tuple(readable_families(50, most=6, seed=21)) + tuple(readable_families(50, "abc", 3, 3, 7, seed=22))
    )
    if len(all_readers(logs)) <= 150 and all_cells(logs)
)
# With one value that no log has.
VALUES = (0, 1, 2, 7)
OTHER_CELLS = (None, True, 0, "", "q", "ab", ("a",), ["a"], {"a": 0}, {}, [], (), LOGS, "a=0")


def snapshots_of(logs, most=16):
    """Snapshots of the logs: such as agree with a log, and with all kinds of values."""
    cells = all_cells(logs)
    some = [tuple(zip(cells, values)) for values in product(VALUES, repeat=len(cells))]
    agreeing = [tuple(sorted(({cell: 0 for cell in cells} | dict(log)).items())) for log in logs]
    return agreeing + some[::1 + len(some) // most]


def with_more(snapshot):
    """The snapshot with cells that no log has."""
    return tuple(sorted(snapshot + (("aaa", 0), ("zzz", 10 ** 9))))


def questions(families=FAMILIES, most=16):
    """Each of the logs, each snapshot and each cell of the logs."""
    for logs in families:
        for snapshot in snapshots_of(logs, most):
            for cell in all_cells(logs):
                yield logs, snapshot, cell


def runs_without(logs, snapshot, cell):
    """The runs of all readers on the snapshot that do not read the cell."""
    runs = {run_on(reader, snapshot) for reader in all_readers(logs)}
    return {run for run in runs if cell not in run[1]}


def groups_with(logs, snapshot, closed):
    """The logs that have all of closed with the values of the snapshot."""
    return agree_on(logs, snapshot, closed)


def all_evidence(logs, snapshot, cell):
    """All evidence that the document describes, word by word."""
    others = [other for other in all_cells(logs) if other != cell]
    for closed in (closed for size in range(len(others) + 1) for closed in combinations(others, size)):
        group = groups_with(logs, snapshot, closed)
        if any(set(cells_read(log)) - set(closed) for log in group):
            choices = [
                [(other, log) for log in group if other not in cells_read(log)]
                for other in others if other not in closed
            ]
            for witnesses in product(*choices):
                yield closed, witnesses


class AllCellsTest(unittest.TestCase):
    """The functions against the runs of all readers, listed here."""

    def check(self, logs, snapshot, cell):
        """The answers for one cell; whether it is certain."""
        arguments = {"logs": logs, "snapshot": snapshot, "cell": cell}
        runs = runs_without(logs, snapshot, cell)
        found = call(self, avoiding, **arguments)
        evidence = call(self, evidence_certain, **arguments)
        if runs:
            self.assertIn(found, runs)
            self.assertIsNone(evidence)
            self.assertIs(call(self, shows_avoided, **arguments, thing=found), True)
            self.assertIs(call(self, shows_certain, **arguments, thing=evidence), False)
            self.assertIsNone(next(all_evidence(**arguments), None))
        else:
            self.assertIsNone(found)
            self.assertIn(evidence, all_evidence(**arguments))
            self.assertIs(call(self, shows_certain, **arguments, thing=evidence), True)
            self.assertIs(call(self, shows_avoided, **arguments, thing=found), False)
        return not runs

    def test_a_path_or_evidence_never_both(self):
        counts = {False: 0, True: 0}
        for logs, snapshot, cell in questions():
            with self.subTest(logs=logs, snapshot=snapshot, cell=cell):
                counts[self.check(logs, snapshot, cell)] += 1
        self.assertGreater(min(counts.values()), 1000)

    def test_more_cells_than_needed(self):
        for logs, snapshot, cell in questions(most=4):
            with self.subTest(logs=logs, snapshot=snapshot, cell=cell):
                self.check(logs, with_more(snapshot), cell)

    def test_the_certain_cells_cannot_be_avoided(self):
        for logs in FAMILIES:
            for snapshot in snapshots_of(logs, 30):
                for given in (snapshot, with_more(snapshot)):
                    cells = tuple(cell for cell in all_cells(logs) if avoiding(logs, given, cell) is None)
                    self.assertEqual(cells, certain_reads(logs, given))

    def test_the_run_of_each_reader_is_accepted(self):
        asked = 0
        for logs, snapshot, cell in questions(most=6):
            for run in {run_on(reader, snapshot) for reader in all_readers(logs)}:
                self.assertIs(shows_avoided(logs, snapshot, cell, run), cell not in run[1])
                asked += 1
        self.assertGreater(asked, 5000)

    def test_all_evidence_is_accepted(self):
        asked = 0
        for logs, snapshot, cell in questions(most=6):
            for evidence in islice(all_evidence(logs, snapshot, cell), 20):
                self.assertIs(shows_certain(logs, snapshot, cell, evidence), True)
                asked += 1
        self.assertGreater(asked, 1000)


class ShowsAvoidedTest(unittest.TestCase):
    def test_all_rows_of_cells(self):
        accepted = 0
        for logs, snapshot, cell in questions(FAMILIES[::3], 4):
            cells = all_cells(logs)[:4]
            wanted = runs_without(logs, snapshot, cell)
            rows = chain(*[permutations(cells, size) for size in range(len(cells) + 1)])
            for outcome, path in product(("done", "open"), rows):
                found = shows_avoided(logs, snapshot, cell, (outcome, path))
                self.assertIs(found, (outcome, path) in wanted)
                accepted += found
        self.assertGreater(accepted, 500)

    def test_changed_pairs(self):
        asked = 0
        for logs, snapshot, cell in questions(FAMILIES[::4], 3):
            wanted = {repr(run) for run in runs_without(logs, snapshot, cell)}
            for thing in changed(avoiding(logs, snapshot, cell) or ("done", certain_reads(logs, snapshot))):
                with self.subTest(logs=logs, snapshot=snapshot, cell=cell, thing=thing):
                    self.assertIs(shows_avoided(logs, snapshot, cell, thing), repr(thing) in wanted)
                    asked += 1
        self.assertGreater(asked, 10000)

    def test_the_other_outcome(self):
        self.assertIs(shows_avoided(TWO, (("a", 3), ("b", 3)), "a", ("open", ("b",))), True)
        self.assertIs(shows_avoided(TWO, (("a", 3), ("b", 3)), "a", ("done", ("b",))), False)
        logs, snapshot = LOGS, (("a", 0), ("b", 1), ("c", 0))
        self.assertIs(shows_avoided(logs, snapshot, "c", ("done", ("a", "b"))), True)
        for outcome in ("open", "unknown", "Done", "", None, True, 0, ("done",), ["done"]):
            self.assertIs(shows_avoided(logs, snapshot, "c", (outcome, ("a", "b"))), False)

    def test_paths(self):
        first, *rest = flat_logs(3, 3)
        logs = (first + (("zz", 0),), *rest)
        snapshot = (("aa", 9), ("ab", 0), ("ac", 0), ("zz", 5))
        good = (("ab", "zz"), ("ac", "zz"), ("ab", "ac", "zz"), ("ac", "ab", "zz"))
        self.assertEqual(runs_without(logs, snapshot, "aa"), {("open", path) for path in good})
        bad = (
            (), ("zz",), ("ab",), ("ab", "ac"), ("ab", "ab", "zz"), ("ab", "zz", "zz"), ("ab", "zz", "ac"), ("aa",),
            ("zz", "ab"), ("ab", "aa", "zz"), ("ab", "q", "zz"), ["ab", "zz"], ("ab", None, "zz"), ("ab", ("zz",)),
            "zz",
            ("ab", "zz", None), (("ab", "zz"),), {"ab": 0, "zz": 5}, None,
        )
        for path in good + bad:
            found = call(self, shows_avoided, logs=logs, snapshot=snapshot, cell="aa", thing=("open", path))
            self.assertIs(found, path in good)
            self.assertIs(shows_avoided(logs, snapshot, "aa", ("done", path)), False)

    def test_a_path_ends_where_no_log_is_left(self):
        snapshot = (("a", 3), ("b", 3))
        self.assertIs(shows_avoided(TWO, snapshot, "b", ("open", ("a",))), True)
        three = flat_logs(2, 3)
        snapshot = (("aa", 3), ("ab", 3), ("ac", 3))
        self.assertIs(shows_avoided(three, snapshot, "ac", ("open", ("aa",))), True)
        self.assertIs(shows_avoided(three, snapshot, "ac", ("open", ("aa", "ab"))), False)

    def test_any_object(self):
        snapshot = (("a", 3), ("b", 3))
        for thing in THINGS:
            with self.subTest(thing=thing):
                self.assertIs(call(self, shows_avoided, logs=TWO, snapshot=snapshot, cell="a", thing=thing), False)
        for thing in THINGS + DEEP_THINGS:
            for built in (("open", thing), (thing, ("b",)), ("open", (thing,)), ("open", ("b", thing)),
                          ("open", ("b",), thing), ["open", ("b",)], ("open",), ("open", ["b"])):
                # Compared from the left, so that no deep object is compared with another one.
                wanted = built == ("open", ("b",))
                self.assertIs(shows_avoided(TWO, snapshot, "a", built), wanted)
        for thing in DEEP_THINGS:
            self.assertIs(shows_avoided(TWO, snapshot, "a", thing), False)


class ShowsCertainTest(unittest.TestCase):
    def test_changed_evidence(self):
        asked = 0
        for logs, snapshot, cell in questions(FAMILIES[::4], 3):
            wanted = {repr(evidence) for evidence in all_evidence(logs, snapshot, cell)}
            others = tuple((other, logs[0]) for other in all_cells(logs) if other != cell)
            for thing in changed(evidence_certain(logs, snapshot, cell) or ((), others)):
                with self.subTest(logs=logs, snapshot=snapshot, cell=cell, thing=thing):
                    self.assertIs(shows_certain(logs, snapshot, cell, thing), repr(thing) in wanted)
                    asked += 1
        self.assertGreater(asked, 10000)

    def test_every_subset_as_closed(self):
        asked = accepted = 0
        for logs, snapshot, cell in questions(FAMILIES[::2], 3):
            wanted = {repr(evidence) for evidence in all_evidence(logs, snapshot, cell)}
            for size in range(len(all_cells(logs)) + 1):
                for closed in combinations(all_cells(logs), size):
                    rest = [other for other in all_cells(logs) if other != cell and other not in closed]
                    choices = [[(other, log) for log in logs if other not in cells_read(log)] for other in rest]
                    for witnesses in islice(product(*choices), 6):
                        thing = (closed, witnesses)
                        found = shows_certain(logs, snapshot, cell, thing)
                        self.assertIs(found, repr(thing) in wanted)
                        asked += 1
                        accepted += found
        self.assertGreater(accepted, 500)
        self.assertGreater(asked, 3 * accepted)

    def test_some_log_must_have_another_cell(self):
        # All runs end at the log without cells behind "a", so "b" is not read.
        logs = ((("a", 0),), (("a", 1), ("b", 0)))
        for value, wanted in ((0, False), (1, True), (2, False)):
            self.assertIs(shows_certain(logs, (("a", value), ("b", 0)), "b", (("a",), ())), wanted)
        self.assertIs(shows_certain(((("a", 0),),), (("a", 0),), "a", ((), ())), True)

    def test_closed(self):
        logs, snapshot = LOGS, (("a", 0), ("b", 7), ("c", 2))
        good = (("c", LOGS[0]),)
        self.assertIs(shows_certain(logs, snapshot, "b", (("a",), good)), True)
        for closed in ((), ("b",), ("a", "b"), ("a", "a"), ("a", "c"), ("c", "a"), ["a"], ("q",), (None,), "a", None,
                True):
            for witnesses in (good, (), (("a", LOGS[0]), ("c", LOGS[0]))):
                self.assertIs(shows_certain(logs, snapshot, "b", (closed, witnesses)), False)

    def test_witnesses(self):
        logs, snapshot = LOGS, (("a", 0), ("b", 7), ("c", 2))
        for bad in ((), (("c", LOGS[1]),), (("c", LOGS[2]),), (("b", LOGS[0]),), (("c", LOGS[0]),) * 2,
                (["c", LOGS[0]],),
                    (("c", list(LOGS[0])),), (("c", LOGS[0], None),), (("c",),), (("c", (("a", False), ("b", 1))),),
                    (("c", (("a", 0), ("b", True))),), (("c", (("a", 0),)),), (("c", None),), {"c": LOGS[0]},
                    [("c", LOGS[0])], None, (("c", (("a", 0), ("b", 9))),), (("c", ()),)):
            with self.subTest(bad=bad):
                self.assertIs(call(
                    self, shows_certain, logs=logs, snapshot=snapshot, cell="b", thing=(("a",), bad)
                ), False)

    def test_a_witness_agrees_on_closed(self):
        logs = ((("a", 0), ("b", 0)), (("a", 0), ("b", 1), ("c", 0)), (("a", 1),))
        snapshot = (("a", 0), ("b", 1), ("c", 5))
        self.assertIs(shows_certain(logs, snapshot, "b", (("a",), (("c", logs[0]),))), True)
        self.assertIs(shows_certain(logs, snapshot, "b", (("a",), (("c", logs[2]),))), False)

    def test_any_object(self):
        snapshot, evidence = (("a", 0), ("b", 7), ("c", 2)), (("a",), (("c", LOGS[0]),))
        closed, witnesses = evidence
        for thing in THINGS:
            with self.subTest(thing=thing):
                self.assertIs(call(self, shows_certain, logs=LOGS, snapshot=snapshot, cell="b", thing=thing), False)
        for thing in THINGS + DEEP_THINGS:
            for built in ((closed, thing), (thing, witnesses), (closed, (thing,)), (closed, (("c", thing),)),
                          (closed, ((thing, LOGS[0]),)), ((thing,), witnesses), (closed, witnesses, thing)):
                self.assertIs(shows_certain(LOGS, snapshot, "b", built), built == evidence)
        for thing in DEEP_THINGS:
            self.assertIs(shows_certain(LOGS, snapshot, "b", thing), False)


class ErrorsTest(unittest.TestCase):
    CALLS = (
        (avoiding, {}), (evidence_certain, {}), (shows_avoided, {"thing": None}), (shows_certain, {"thing": ((), ())}),
    )

    def refuse(self, error_class, **arguments):
        errors = [refused(self, error_class, function, **arguments, **more) for function, more in self.CALLS]
        self.assertTrue(all(same(vars(error), vars(errors[0])) for error in errors))
        return errors[0]

    def test_no_logs_first(self):
        for snapshot, cell in product(((), None, (("a", 0),)), ("a", None)):
            self.assertEqual(vars(self.refuse(NoLogs, logs=(), snapshot=snapshot, cell=cell)), {})

    def test_stuck_then(self):
        for logs in (CYCLE, ((), (("a", 0),)), lacking_one(5)):
            for snapshot, cell in product(((), None, (("a", 0), ("b", 0), ("c", 0))), ("a", None)):
                error = self.refuse(Stuck, logs=logs, snapshot=snapshot, cell=cell)
                self.assertIs(is_minimal_stuck(logs, error.group), True)

    def test_bad_snapshot_then(self):
        for thing in (None, (), {}, 0, [("a", 0), ("b", 0), ("c", 0)], (("a", 0),), (("a", 0), ("b", True), ("c", 0))):
            for cell in ("a", None):
                error = self.refuse(BadSnapshot, logs=LOGS, snapshot=thing, cell=cell)
                self.assertEqual(repr(vars(error)), repr({"snapshot": thing}))

    def test_bad_cell_then(self):
        for cell in OTHER_CELLS + ("zzz",):
            error = self.refuse(BadCell, logs=TWO, snapshot=with_more((("a", 0), ("b", 1))), cell=cell)
            self.assertEqual(repr(vars(error)), repr({"cell": cell}))

    def test_the_empty_log_has_no_cell(self):
        for cell in ("a", None, (), ""):
            error = self.refuse(BadCell, logs=((),), snapshot=(("a", 0),), cell=cell)
            self.assertEqual(repr(error.cell), repr(cell))

    def test_any_object(self):
        for thing in THINGS + DEEP_THINGS:
            for function, more in self.CALLS:
                if thing not in ("a", "b"):
                    with self.assertRaises(BadCell) as caught:
                        function(TWO, (("a", 0), ("b", 1)), thing, **more)
                    self.assertIs(caught.exception.cell, thing)
                with self.assertRaises(BadSnapshot) as caught:
                    function(TWO, thing, thing, **more)
                self.assertIs(caught.exception.snapshot, thing)


class ManyCellsTest(unittest.TestCase):
    def check(self, logs, snapshot, cells):
        """One of the two for each of the cells; how many are certain."""
        certain = certain_reads(logs, snapshot)
        for cell in cells:
            arguments = {"logs": logs, "snapshot": snapshot, "cell": cell}
            found, evidence = call(self, avoiding, **arguments), call(self, evidence_certain, **arguments)
            self.assertIs(found is None, cell in certain)
            self.assertIs(evidence is None, cell not in certain)
            self.assertIs(shows_avoided(**arguments, thing=found), cell not in certain)
            self.assertIs(shows_certain(**arguments, thing=evidence), cell in certain)
        return len(set(certain) & set(cells))

    def test_a_chain(self):
        cells = all_cells(LONGEST_CHAIN)
        for value, end in ((0, 59), (9, 30), (2, 58), (9, 0)):
            snapshot = tuple((cell, value if at >= end else 0) for at, cell in enumerate(cells)) + (("zz", 1),)
            asked = cells[::7] + (cells[end],)
            self.assertEqual(self.check(LONGEST_CHAIN, snapshot, asked), len(set(asked) & set(cells[:end + 1])))

    def test_all_cells_at_once(self):
        cells = all_cells(WIDEST)
        for snapshot, certain in (
            (tuple((cell, 299) for cell in cells), 7), (tuple((cell, 300) for cell in cells), 0),
            (tuple((cell, 5) for cell in cells[:-1]) + ((cells[-1], 6),), 1),
        ):
            self.assertEqual(self.check(WIDEST, snapshot, cells[::10] + cells[-1:]), certain)

    def test_many_different_cells(self):
        logs = tuple(
            (("a", value),) + tuple((name(26 + (value * 7 + at) % 600), 0) for at in range(59)) for value in range(300)
        )
        logs = tuple(tuple(sorted(log)) for log in logs)
        snapshot = (("a", 17),) + tuple((name(at), 0) for at in range(26, 626))
        some = cells_read(logs[17])[::13] + (name(26),)
        self.assertEqual(self.check(logs, snapshot, some), len(some) - 1)
        evidence = evidence_certain(logs, snapshot, "a")
        self.assertEqual(len(evidence[1]), 600)

    def test_drawn_snapshots(self):
        random = Random(23)
        logs = tuple(sorted(
            (("a", value),) + tuple((name(30 + at), random.randrange(3)) for at in range(value % 20, value % 20 + 40))
            for value in range(120)
        ))
        for _ in range(4):
            cells = all_cells(logs)
            snapshot = tuple((cell, random.randrange(4)) for cell in cells)
            self.check(logs, snapshot, cells[::9])


if __name__ == "__main__":
    unittest.main()
