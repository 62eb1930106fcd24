"""Points [6], [7] and [8], and [3] (a) and (b): groups, blocks, stuck groups, readers."""

import unittest

from readorder.errors import NoLogs, Stuck
from readorder.groups import (
    blocks, has_reader, is_minimal_stuck, is_stuck, reader_for, splitting_cells, stuck_group,
)
from readorder.readers import is_reader_of
from tests.brute import (
    all_cells, all_readers, by_value, cells_read, groups_of, minimal_stuck_groups, random_families, readable,
    readable_families, shared, small_families, splits, split_up, stuck,
)
from tests.support import (
    CYCLE, DEEP_THINGS, LOGS, LONGEST_CHAIN, PAIR, READER, THINGS, TWO, WIDEST, call, chain_logs, changed,
    flat_logs, lacking_one, log_of, many_logs, name, refused,
)

# A log and a part of it, the empty log beside others, logs without a common
# cell, equal values in the common cells, several stuck groups at once.
PART = ((("a", 0),), (("a", 0), ("b", 1)))
WITH_EMPTY = ((), (("a", 0),), (("b", 0),))
APART = ((("a", 0),), (("b", 0),), (("c", 0),))
EQUAL_THERE = ((("a", 0), ("b", 1), ("c", 0)), (("a", 0), ("b", 1), ("d", 0)))
SEVERAL = tuple(sorted(
    tuple(sorted(log + (("x", value),)))
    for value, family in enumerate((CYCLE, LOGS, PART, APART, EQUAL_THERE)) for log in family
))
# Each two of these three can be told apart, but not all three of them.
THREE = ((("a", 0), ("b", 0)), (("a", 1), ("c", 0)), (("b", 1), ("c", 1)))
DEEPER = tuple(sorted(((("x", 0),), (("x", 1), ("y", 0)), (("x", 1), ("y", 1), ("z", 3)))
                      + tuple(log + (("x", 2),) for log in THREE)))
STUCK = (PART, WITH_EMPTY, APART, EQUAL_THERE, SEVERAL, CYCLE, THREE, DEEPER, lacking_one(4), lacking_one(5))
READABLE = (
    LOGS, PAIR, TWO, ((),), ((("a", 5),),), (log_of(4),), many_logs(5), chain_logs(4, 2), flat_logs(3, 3),
)
FAMILIES = (
    STUCK + READABLE + tuple(small_families())
    + tuple(random_families(150)) + tuple(random_families(60, "abc", 3, 8, seed=3))
    + tuple(readable_families(40)) + tuple(readable_families(40, "abcde", 5, 3, 9, seed=5))
)
SMALL = tuple(logs for logs in FAMILIES if len(logs) <= 6)


def plainly_has_reader(logs):
    return len(logs) > 0 and readable(logs)


def without(logs, log):
    return tuple(other for other in logs if other != log)


class SplittingTest(unittest.TestCase):
    def test_splitting_cells_and_is_stuck(self):
        for logs in FAMILIES:
            with self.subTest(logs=logs):
                wanted = tuple(cell for cell in all_cells(logs) if splits(logs, cell))
                self.assertEqual(call(self, splitting_cells, logs=logs), wanted)
                self.assertIs(call(self, is_stuck, logs=logs), stuck(logs))

    def test_one_log_and_none(self):
        for logs in ((), ((),), ((("a", 0), ("b", 1)),)):
            self.assertEqual(call(self, splitting_cells, logs=logs), ())
            self.assertIs(call(self, is_stuck, logs=logs), False)

    def test_a_cell_must_be_in_all_logs_and_differ(self):
        self.assertEqual(splitting_cells(LOGS), ("a",))
        self.assertEqual(splitting_cells(TWO), ("a", "b"))
        self.assertEqual(splitting_cells(EQUAL_THERE), ())
        one_of_two = ((("a", 0), ("b", 0)), (("a", 0), ("b", 1)), (("a", 0), ("b", 1), ("c", 0)))
        self.assertEqual(splitting_cells(one_of_two), ("b",))

    def test_many_logs(self):
        self.assertEqual(splitting_cells(WIDEST), tuple(name(number) for number in range(60)))
        self.assertEqual(splitting_cells(LONGEST_CHAIN), ("aa",))
        self.assertIs(is_stuck(lacking_one(61)), True)


class BlocksTest(unittest.TestCase):
    def test_whatever_splits_first(self):
        for logs in FAMILIES:
            with self.subTest(logs=logs):
                wanted = split_up(logs) if logs else ()
                self.assertEqual(split_up(logs, last=True) if logs else (), wanted)
                self.assertEqual(call(self, blocks, logs=logs), wanted)

    def test_no_logs_and_one(self):
        self.assertEqual(call(self, blocks, logs=()), ())
        self.assertEqual(call(self, blocks, logs=((),)), (((),),))

    def test_stuck_blocks_beside_single_logs(self):
        wanted = ((DEEPER[0], DEEPER[1], DEEPER[2]),) + tuple((log,) for log in DEEPER[3:])
        self.assertEqual(call(self, blocks, logs=DEEPER), tuple(sorted(wanted)))

    def test_the_limits(self):
        for logs in (WIDEST, LONGEST_CHAIN):
            self.assertEqual(call(self, blocks, logs=logs), tuple((log,) for log in logs))
        self.assertEqual(blocks(lacking_one(61)), (lacking_one(61),))


class HasReaderTest(unittest.TestCase):
    def test_as_every_cell_at_every_node_tells(self):
        for logs in FAMILIES:
            with self.subTest(logs=logs):
                self.assertIs(call(self, has_reader, logs=logs), plainly_has_reader(logs))

    def test_what_the_families_are(self):
        self.assertFalse(any(has_reader(logs) for logs in STUCK))
        self.assertTrue(all(has_reader(logs) for logs in READABLE))
        self.assertGreater(sum(plainly_has_reader(logs) for logs in FAMILIES), 100)
        self.assertGreater(sum(not plainly_has_reader(logs) for logs in FAMILIES), 100)

    def test_no_logs_and_the_empty_log(self):
        self.assertIs(call(self, has_reader, logs=()), False)
        self.assertIs(call(self, has_reader, logs=((),)), True)
        self.assertIs(call(self, has_reader, logs=((), (("a", 0),))), False)

    def test_the_limits(self):
        for logs in (WIDEST, LONGEST_CHAIN, many_logs(300), (log_of(60),)):
            self.assertIs(call(self, has_reader, logs=logs), True)
        one_more = tuple(sorted(without(LONGEST_CHAIN, LONGEST_CHAIN[7]) + (LONGEST_CHAIN[7][:-1],)))
        self.assertIs(call(self, has_reader, logs=one_more), False)

    def test_somewhat_beyond_the_limits(self):
        for logs in (many_logs(320), flat_logs(3, 90), chain_logs(150, 3)):
            self.assertIs(has_reader(logs), True)


class StuckGroupTest(unittest.TestCase):
    def check(self, logs):
        """A reader or a minimal stuck group, never both; all functions agree."""
        found = call(self, stuck_group, logs=logs)
        if found is None:
            self.assertIs(has_reader(logs), len(logs) > 0)
            return
        self.assertIs(has_reader(logs), False)
        self.assertIs(call(self, is_minimal_stuck, logs=logs, thing=found), True)
        self.assertIs(is_stuck(found), True)
        self.assertEqual(found, tuple(log for log in logs if log in found))
        for log in found:
            self.assertIs(has_reader(without(found, log)), True)
        error = refused(self, Stuck, reader_for, logs=logs)
        self.assertIs(is_minimal_stuck(logs, error.group), True)

    def test_all_families(self):
        for logs in FAMILIES:
            with self.subTest(logs=logs):
                self.check(logs)

    def test_among_all_minimal_stuck_groups(self):
        for logs in SMALL:
            with self.subTest(logs=logs):
                self.assertIn(stuck_group(logs), minimal_stuck_groups(logs) or [None])

    def test_groups_of_many_logs(self):
        for many in (3, 4, 5, 20, 61):
            self.assertEqual(stuck_group(lacking_one(many)), lacking_one(many))
            self.check(lacking_one(many))

    def test_in_the_depth(self):
        last = LONGEST_CHAIN[:-5] + tuple(sorted((LONGEST_CHAIN[-5][:-1], LONGEST_CHAIN[-4])))
        self.check(tuple(sorted(last)))
        self.check(tuple(sorted((log[0],) for log in WIDEST[:200]) + [(("z", 0),)]))
        self.check(tuple((((name(number), 0),)) for number in range(300)))

    def test_no_logs(self):
        self.assertIsNone(call(self, stuck_group, logs=()))


class IsMinimalStuckTest(unittest.TestCase):
    def test_all_groups(self):
        for logs in SMALL:
            minimal = minimal_stuck_groups(logs)
            for group in groups_of(logs):
                with self.subTest(logs=logs, group=group):
                    self.assertIs(call(self, is_minimal_stuck, logs=logs, thing=group), group in minimal)

    def test_changed_groups(self):
        for logs in (PART, WITH_EMPTY, CYCLE, THREE, EQUAL_THERE, DEEPER, SEVERAL[:7]):
            minimal = {repr(group) for group in minimal_stuck_groups(logs)}
            for group in minimal_stuck_groups(logs):
                for thing in changed(group):
                    with self.subTest(logs=logs, thing=thing):
                        self.assertIs(is_minimal_stuck(logs, thing), repr(thing) in minimal)

    def test_any_object(self):
        for logs in ((), LOGS, CYCLE, WITH_EMPTY):
            minimal = {repr(group) for group in minimal_stuck_groups(logs)}
            for thing in THINGS:
                with self.subTest(logs=logs, thing=thing):
                    self.assertIs(call(self, is_minimal_stuck, logs=logs, thing=thing), repr(thing) in minimal)
            for thing in DEEP_THINGS:
                self.assertIs(is_minimal_stuck(logs, thing), False)
                self.assertIs(is_minimal_stuck(logs, (thing,)), False)
                self.assertIs(is_minimal_stuck(logs, CYCLE[:2] + (thing,)), False)

    def test_true_is_not_one(self):
        self.assertIs(is_minimal_stuck(CYCLE, ((("a", 0), ("b", True)),) + CYCLE[1:]), False)
        self.assertIs(is_minimal_stuck(CYCLE, ((("a", False), ("b", 1)),) + CYCLE[1:]), False)

    def test_logs_that_are_not_there(self):
        self.assertIs(is_minimal_stuck(CYCLE[:2], CYCLE), False)
        self.assertIs(is_minimal_stuck(LOGS, PART), False)

    def test_stuck_but_not_minimal(self):
        self.assertIs(is_minimal_stuck(APART, APART), False)
        self.assertIs(is_minimal_stuck(APART, APART[:2]), True)

    def test_beyond_the_limits(self):
        logs = tuple(sorted(many_logs(300) + ((("b", 0),),)))
        self.assertIs(is_minimal_stuck(logs, ((("a", 299),), (("b", 0),))), True)
        self.assertIs(is_minimal_stuck(lacking_one(70), lacking_one(70)), True)


def preferred(logs, prefer, above=()):
    """The reader that the document describes, node by node."""
    cells = tuple(cell for cell in prefer + shared(logs) if cell in shared(logs) and cell not in above)
    if not cells:
        return ()
    groups = by_value(logs, cells[0])
    return (cells[0], tuple((value, preferred(group, prefer, above + cells[:1])) for value, group in groups.items()))


class ReaderForTest(unittest.TestCase):
    def prefers(self, logs):
        """No cell, each cell first, all cells backward, unknown ones, some twice."""
        cells = all_cells(logs)
        yield ()
        yield cells[::-1]
        yield ("q", "zzz") + cells[1:] + ("q",)
        yield cells[-1:] * 2 + cells[:1] + cells[-1:] + cells
        for cell in cells:
            yield (cell,)

    def test_the_reader_that_is_described(self):
        for logs in FAMILIES:
            if plainly_has_reader(logs):
                for prefer in self.prefers(logs):
                    with self.subTest(logs=logs, prefer=prefer):
                        found = call(self, reader_for, logs=logs, prefer=prefer)
                        self.assertEqual(found, preferred(logs, prefer))
                        self.assertIs(is_reader_of(logs, found), True)

    def test_it_is_one_of_all_readers(self):
        for logs in readable_families(30):
            self.assertIn(reader_for(logs), all_readers(logs))

    def test_without_prefer(self):
        self.assertEqual(call(self, reader_for, logs=LOGS), READER)
        for logs in (LOGS, PAIR, TWO):
            self.assertEqual(reader_for(logs), reader_for(logs, prefer=()))

    def test_any_shared_cell_can_be_read_first(self):
        for logs in FAMILIES:
            if plainly_has_reader(logs):
                for cell in shared(logs):
                    reader = call(self, reader_for, logs=logs, prefer=(cell,))
                    self.assertEqual(reader[0], cell)
                    self.assertIs(is_reader_of(logs, reader), True)

    def test_prefer_by_name_only(self):
        with self.assertRaises(TypeError):
            reader_for(TWO, ("b",))

    def test_the_empty_log(self):
        self.assertEqual(call(self, reader_for, logs=((),), prefer=("a",)), ())

    def test_no_logs(self):
        self.assertEqual(vars(refused(self, NoLogs, reader_for, logs=(), prefer=("a",))), {})

    def test_stuck(self):
        for logs in STUCK:
            error = refused(self, Stuck, reader_for, logs=logs, prefer=("b",))
            self.assertEqual(list(vars(error)), ["group"])
            self.assertIs(is_minimal_stuck(logs, error.group), True)
        self.assertEqual(refused(self, Stuck, reader_for, logs=CYCLE).group, CYCLE)

    def test_the_limits(self):
        for logs in (WIDEST, LONGEST_CHAIN, many_logs(300), (log_of(60),)):
            for prefer in ((), cells_read(logs[-1])[::-1]):
                self.assertIs(is_reader_of(logs, call(self, reader_for, logs=logs, prefer=prefer)), True)
        self.assertEqual(reader_for(WIDEST, prefer=("ch",))[0], "ch")


if __name__ == "__main__":
    unittest.main()
