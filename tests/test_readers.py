"""Point [5]: readers."""

import unittest
from itertools import product

from readorder.logs import is_logs
from readorder.readers import follow, is_reader, is_reader_of, logs_of
from tests.support import (
    DEEP_THINGS, LETTERS, LOGS, READER, THINGS, call, many_logs, name, reader_chain, wide_reader,
)

LEAF_LOGS = ((),)
TWICE_B = ("a", ((0, ("b", ((0, ()), (3, ())))), (1, ("b", ((0, ()),))), (2, ())))
# A cell may occur on several paths, in another order on each of them.
CROSSED = ("a", ((0, ("c", ((1, ("b", ((2, ()),))),))), (1, ("b", ((0, ("c", ((1, ()),))), (7, ()))))))
READERS = (
    (), READER, TWICE_B, CROSSED, ("z", ((5, ()),)), ("abcdefgh", ((0, ()), (10 ** 9, ()))),
    reader_chain(5, TWICE_B), ("y", ((0, CROSSED), (1, READER), (2, TWICE_B), (3, ()))),
)


def plainly_a_reader(thing, above=()):
    """What the document says of a reader, the number of its leaves apart."""
    if type(thing) is not tuple:
        return False
    if thing == ():
        return True
    if len(thing) != 2 or len(above) == 60:
        return False
    cell, branches = thing
    if type(cell) is not str or len(cell) not in range(1, 9) or set(cell) - set(LETTERS) or cell in above:
        return False
    if type(branches) is not tuple or not branches:
        return False
    for branch in branches:
        if type(branch) is not tuple or len(branch) != 2 or type(branch[0]) is not int:
            return False
        if not 0 <= branch[0] <= 10 ** 9 or not plainly_a_reader(branch[1], above + (cell,)):
            return False
    values = [value for value, _ in branches]
    return values == sorted(set(values))


def paths(reader):
    """The path to each leaf, in reading order."""
    if reader == ():
        return [()]
    cell, branches = reader
    return [((cell, value),) + path for value, below in branches for path in paths(below)]


class IsReaderTest(unittest.TestCase):
    def yes(self, thing):
        self.assertIs(call(self, is_reader, thing=thing), True)

    def no(self, thing):
        self.assertIs(call(self, is_reader, thing=thing), False)

    def test_ordinary_readers(self):
        for reader in READERS:
            self.yes(reader)

    def test_a_leaf_alone(self):
        self.yes(())

    def test_any_object(self):
        for thing in THINGS:
            with self.subTest(thing=thing):
                self.assertIs(call(self, is_reader, thing=thing), plainly_a_reader(thing))
                below = ("y", ((0, thing), (1, READER)))
                self.assertIs(call(self, is_reader, thing=below), plainly_a_reader(below))

    def test_other_kinds(self):
        for thing in (0, 1, True, False, None, "", "a", ".", [], {}, [()], ((),), LOGS, list(READER), {"a": ()}):
            self.no(thing)
        for thing in (("a",), ("a", ((0, ()),), ()), ("a", ((0, ()),), 1), (((0, ()),), "a"), ["a", ((0, ()),)]):
            self.no(thing)

    def test_a_node_without_branches(self):
        self.no(("a", ()))
        self.no(("a", ((0, ()), (1, ("b", ())))))

    def test_branches_of_other_kinds(self):
        for branches in ([(0, ())], {0: ()}, None, 0, "", ((),), (0,), (0, ()), ((0,),), ((0, (), ()),), ([0, ()],)):
            self.no(("a", branches))
            self.no(("b", ((0, ("a", branches)),)))

    def test_one_wrong_branch_beside_good_ones(self):
        for branch in (None, 3, "", (), (3,), (3, (), ()), [3, ()], {3: ()}, ("3", ()), (True, ()), (-1, ())):
            self.no(("a", ((0, ()), branch)))
            self.no(("a", (branch, (9, ()))))
            self.no(("a", ((0, ()), branch, (9, ()))))

    def test_a_branch_leads_to_a_reader(self):
        for below in (None, 0, "", "b", [], {}, ("b",), ("b", ()), ((),), [()], ["b", ((0, ()),)]):
            self.no(("a", ((0, below),)))
            self.no(("a", ((0, below), (1, ()))))
            self.no(("a", ((0, ()), (1, below))))

    def test_cells(self):
        for cell in ("a", "z", "abcdefgh"):
            self.yes((cell, ((0, ()),)))
        for cell in ("", "abcdefghi", "A", "a b", "a1", "_", "\u00e9", "a\n", 0, None, True, (), ("a",), ["a"]):
            self.no((cell, ((0, ()),)))

    def test_values(self):
        for value in (0, 1, 10 ** 9 - 1, 10 ** 9):
            self.yes(("a", ((value, ()),)))
        for value in (-1, 10 ** 9 + 1, 10 ** 30, True, False, None, "0", (), (0,), [], {}):
            self.no(("a", ((value, ()),)))

    def test_order_and_duplicates_of_branches(self):
        for values in product(range(3), repeat=3):
            reader = ("a", tuple((value, ()) for value in values))
            self.assertIs(is_reader(reader), values == (0, 1, 2))
        self.no(("a", ((0, ()), (0, ("b", ((0, ()),))))))
        self.no(("a", ((1, ()), (0, ()))))
        self.yes(("a", ((2, ()), (10, ()))))

    def test_a_cell_twice_on_a_path(self):
        self.no(("a", ((0, ("a", ((0, ()),))),)))
        self.no(("a", ((0, ()), (1, ("b", ((0, ("a", ((1, ()),))),))))))
        self.yes(("a", ((0, ("b", ((0, ()),))), (1, ("b", ((0, ()),))))))
        self.yes(CROSSED)
        self.yes(reader_chain(59, ("zz", ((0, ()),))))
        for number in (0, 30, 58):
            self.no(reader_chain(59, (name(number), ((0, ()),))))

    def test_sixty_nodes_on_a_path(self):
        self.yes(reader_chain(59))
        self.yes(reader_chain(60))
        self.no(reader_chain(61))
        self.no(reader_chain(62))
        self.yes(("zz", ((0, ()), (1, reader_chain(59)))))
        self.no(("zz", ((0, ()), (1, reader_chain(60)))))
        self.no(("zz", ((0, reader_chain(60)), (1, ()))))

    def test_three_hundred_leaves(self):
        self.yes(wide_reader(299))
        self.yes(wide_reader(300))
        self.no(wide_reader(301))
        self.no(wide_reader(1000))
        halves = ("b", ((0, wide_reader(150)), (1, wide_reader(150))))
        self.yes(halves)
        self.no(("b", ((0, wide_reader(150)), (1, wide_reader(151)))))
        self.no(("b", ((0, wide_reader(151)), (1, wide_reader(150)))))
        self.no(("c", ((0, halves), (1, ()))))

    def test_both_bounds_at_once(self):
        reader = wide_reader(240)
        for number in reversed(range(26, 85)):
            reader = (name(number), ((0, reader), (1, ())))
        self.yes(reader[1][0][1])
        self.yes(reader)
        self.no(("zz", ((0, reader),)))

    def test_parts_that_stand_for_very_many_leaves(self):
        reader = ()
        for number in range(60):
            reader = (name(number), ((0, reader), (1, reader)))
        self.assertIs(is_reader(reader), False)

    def test_deeper_objects(self):
        for place, thing in enumerate(DEEP_THINGS):
            with self.subTest(place=place):
                self.assertIs(is_reader(thing), False)
                self.assertIs(is_reader(("yy", ((0, thing),))), False)
                self.assertIs(is_reader(("yy", ((0, ()), (1, thing)))), False)
                self.assertIs(is_reader((thing, ((0, ()),))), False)
                self.assertIs(is_reader(("yy", ((thing, ()),))), False)
                self.assertIs(is_reader_of(LOGS, thing), False)
                self.assertIs(is_reader_of(LEAF_LOGS, thing), False)


class LogsOfTest(unittest.TestCase):
    def test_each_leaf_has_its_log(self):
        for reader in READERS:
            found = call(self, logs_of, reader=reader)
            self.assertEqual(found, tuple(sorted(tuple(sorted(path)) for path in paths(reader))))
            self.assertTrue(is_logs(found))

    def test_the_order_of_the_reads_is_lost(self):
        self.assertEqual(
            logs_of(CROSSED),
            ((("a", 0), ("b", 2), ("c", 1)), (("a", 1), ("b", 0), ("c", 1)), (("a", 1), ("b", 7))),
        )
        reader = ("b", ((0, ("a", ((5, ()), (6, ())))), (1, ("a", ((4, ()),)))))
        self.assertEqual(logs_of(reader), ((("a", 4), ("b", 1)), (("a", 5), ("b", 0)), (("a", 6), ("b", 0))))

    def test_edges(self):
        self.assertEqual(call(self, logs_of, reader=()), LEAF_LOGS)
        self.assertEqual(logs_of(wide_reader(300)), many_logs(300))
        self.assertEqual(logs_of(reader_chain(60)), (tuple((name(number), 0) for number in range(60)),))
        self.assertEqual(len(logs_of(wide_reader(320))), 320)
        self.assertEqual(len(logs_of(reader_chain(70))[0]), 70)


class IsReaderOfTest(unittest.TestCase):
    def test_readers_of_these_and_of_other_logs(self):
        for one, other in product(READERS, repeat=2):
            found = call(self, is_reader_of, logs=logs_of(one), thing=other)
            self.assertIs(found, one == other)

    def test_several_readers_of_one_logs(self):
        two = ((("a", 0), ("b", 0)), (("a", 1), ("b", 1)))
        first = ("a", ((0, ("b", ((0, ()),))), (1, ("b", ((1, ()),)))))
        second = ("b", ((0, ("a", ((0, ()),))), (1, ("a", ((1, ()),)))))
        for reader in (first, second):
            self.assertIs(call(self, is_reader_of, logs=two, thing=reader), True)
            self.assertIs(is_reader_of(two[:1], reader), False)
            self.assertIs(is_reader_of(two + ((("a", 2), ("b", 0)),), reader), False)
            self.assertIs(is_reader_of(LOGS, reader), False)

    def test_more_and_fewer_logs(self):
        more = ("a", READER[1] + ((2, ()),))
        fewer = ("a", READER[1][:1])
        self.assertIs(is_reader_of(LOGS, more), False)
        self.assertIs(is_reader_of(LOGS, fewer), False)
        self.assertIs(is_reader_of(LOGS, ("a", READER[1][:1] + ((2, READER[1][1][1]),))), False)

    def test_no_logs_have_no_reader(self):
        for thing in READERS + THINGS:
            self.assertIs(call(self, is_reader_of, logs=(), thing=thing), False)

    def test_the_empty_log(self):
        self.assertIs(call(self, is_reader_of, logs=LEAF_LOGS, thing=()), True)
        self.assertIs(is_reader_of(LEAF_LOGS, READER), False)
        self.assertIs(is_reader_of(LOGS, ()), False)

    def test_any_object(self):
        for thing in THINGS:
            with self.subTest(thing=thing):
                self.assertIs(call(self, is_reader_of, logs=LOGS, thing=thing), thing == READER)
                self.assertIs(call(self, is_reader_of, logs=LEAF_LOGS, thing=thing), thing == ())

    def test_what_would_have_these_logs_but_is_no_reader(self):
        logs = ((("a", 0), ("b", 1)), (("a", 1),))
        self.assertIs(is_reader_of(logs, ("a", ((0, ("b", ((1, ()),))), (1, ())))), True)
        for thing in (
            ("a", ((1, ()), (0, ("b", ((1, ()),))))),
            ("a", ((0, ("b", ((True, ()),))), (1, ()))),
            ("a", ((False, ("b", ((1, ()),))), (True, ()))),
            ("a", [(0, ("b", ((1, ()),))), (1, ())]),
            ["a", ((0, ("b", ((1, ()),))), (1, ()))],
            ("a", ((0, ("b", ((1, []),))), (1, ()))),
            ("a", ((0, ("b", ((1, ()),))), (1, ()), (2, ("c", ())))),
        ):
            self.assertIs(call(self, is_reader_of, logs=logs, thing=thing), False)

    def test_the_bounds(self):
        self.assertIs(is_reader_of(many_logs(300), wide_reader(300)), True)
        self.assertIs(is_reader_of(many_logs(301), wide_reader(301)), False)
        self.assertIs(is_reader_of(logs_of(reader_chain(60)), reader_chain(60)), True)
        self.assertIs(is_reader_of(logs_of(reader_chain(61)), reader_chain(61)), False)


class FollowTest(unittest.TestCase):
    def test_done(self):
        for reader in READERS:
            for path in paths(reader):
                cells = tuple(cell for cell, _ in path)
                known = tuple(sorted(path))
                self.assertEqual(call(self, follow, reader=reader, known=known), ("done", cells, None))
                more = known + (("zzz", 0),)
                self.assertEqual(call(self, follow, reader=reader, known=more), ("done", cells, None))

    def test_unknown(self):
        for reader in READERS:
            for path in paths(reader):
                for place, (cell, _) in enumerate(path):
                    above = tuple(one for one, _ in path[:place])
                    known = tuple(sorted(path[:place] + path[place + 1:]))
                    self.assertEqual(call(self, follow, reader=reader, known=known), ("unknown", above, cell))

    def test_open(self):
        for reader in READERS:
            for path in paths(reader):
                for place, (cell, _) in enumerate(path):
                    cells = tuple(one for one, _ in path[:place + 1])
                    known = tuple(sorted(path[:place] + ((cell, 999),) + path[place + 1:]))
                    self.assertEqual(call(self, follow, reader=reader, known=known), ("open", cells, cell))

    def test_a_leaf_reads_nothing(self):
        self.assertEqual(call(self, follow, reader=(), known=()), ("done", (), None))
        self.assertEqual(call(self, follow, reader=(), known=LOGS[0]), ("done", (), None))

    def test_nothing_known(self):
        self.assertEqual(call(self, follow, reader=READER, known=()), ("unknown", (), "a"))

    def test_only_other_cells_known(self):
        self.assertEqual(call(self, follow, reader=READER, known=(("b", 1), ("c", 5))), ("unknown", (), "a"))

    def test_the_order_is_that_of_the_reader(self):
        known = (("a", 0), ("b", 2), ("c", 1))
        self.assertEqual(follow(CROSSED, known), ("done", ("a", "c", "b"), None))
        known = (("a", 1), ("b", 0), ("c", 2))
        self.assertEqual(follow(CROSSED, known), ("open", ("a", "b", "c"), "c"))

    def test_the_edges_of_values(self):
        reader = ("a", ((0, ()), (10 ** 9, ("b", ((0, ()),)))))
        self.assertEqual(follow(reader, (("a", 0),)), ("done", ("a",), None))
        self.assertEqual(follow(reader, (("a", 10 ** 9),)), ("unknown", ("a",), "b"))
        self.assertEqual(follow(reader, (("a", 1),)), ("open", ("a",), "a"))
        self.assertEqual(follow(reader, (("a", 10 ** 9 - 1), ("b", 0))), ("open", ("a",), "a"))

    def test_sixty_nodes_and_more(self):
        for nodes in (60, 70):
            cells = tuple(name(number) for number in range(nodes))
            known = tuple((cell, 0) for cell in cells)
            self.assertEqual(follow(reader_chain(nodes), known), ("done", cells, None))
            self.assertEqual(follow(reader_chain(nodes), known[:-1]), ("unknown", cells[:-1], cells[-1]))


if __name__ == "__main__":
    unittest.main()
