"""Point [10], and [3] (c): evidence on orders, and the orders of one reader."""

import unittest
from itertools import combinations, permutations, product

from readorder.errors import BadCell, BadOrder, NoLogs, NotALog, OrdersClash, Stuck
from readorder.evidence import evidence_of, order_against, orders_fit, reader_with, shows_precedence
from readorder.groups import is_minimal_stuck, reader_for
from readorder.readers import is_reader_of
from tests.brute import agree_on, all_orders, all_readers, cells_read, log_orders, readable_families
from tests.support import (
    CYCLE, DEEP_THINGS, LOGS, LONGEST_CHAIN, PAIR, THINGS, TWO, WIDEST, call, chain_logs, changed, flat_logs,
    log_of, refused, same,
)

FAMILIES = (
    (LOGS, PAIR, TWO, ((("a", 1), ("b", 0)),), (log_of(4),), chain_logs(4, 2), flat_logs(3, 3))
    + tuple(readable_families(60)) + tuple(readable_families(40, "abcde", 5, 2, 9, seed=6))
)
FEW_READERS = tuple(
    logs for logs in ((LOGS, PAIR, TWO, ((),), chain_logs(3, 2)) + tuple(readable_families(80, "abc", 3, 2, 5, seed=8)))
    if len(all_readers(logs)) <= 40
)
OTHER_CELLS = (None, True, 0, "", "q", "ab", ("a",), ["a"], {"a": 0}, {}, [], (), LOGS, "a=0 b=1")


def questions(families):
    """Each log of the families and each two different cells of it."""
    for logs in families:
        for log in logs:
            for first, later in permutations(cells_read(log), 2):
                yield logs, log, first, later


def always_earlier(logs, log, first, later):
    return all(order.index(first) < order.index(later) for order in all_orders(logs, log))


def all_evidence(logs, log, first, later):
    """All evidence that the document describes, word by word."""
    found = []
    free = [cell for cell in cells_read(log) if cell not in (first, later)]
    for closed in (closed for size in range(len(free) + 1) for closed in combinations(free, size)):
        group = agree_on(logs, log, closed)
        choices = [
            [(cell, other) for other in group if cell not in cells_read(other)]
            for cell in cells_read(log) if cell != first and cell not in closed
        ]
        found.extend((closed, witnesses) for witnesses in product(*choices))
    return found


class AllPairsTest(unittest.TestCase):
    def test_an_order_or_evidence_never_both(self):
        for logs, log, first, later in questions(FAMILIES):
            with self.subTest(logs=logs, log=log, first=first, later=later):
                arguments = {"logs": logs, "log": log, "first": first, "later": later}
                order = call(self, order_against, **arguments)
                evidence = call(self, evidence_of, **arguments)
                if always_earlier(logs, log, first, later):
                    self.assertIsNone(order)
                    self.assertIn(evidence, all_evidence(logs, log, first, later))
                    self.assertIs(call(self, shows_precedence, **arguments, thing=evidence), True)
                else:
                    self.assertIsNone(evidence)
                    self.assertIn(order, all_orders(logs, log))
                    self.assertLess(order.index(later), order.index(first))
                    self.assertEqual(all_evidence(logs, log, first, later), [])

    def test_all_evidence_is_accepted(self):
        some = 0
        for logs, log, first, later in questions(FAMILIES):
            for evidence in all_evidence(logs, log, first, later)[:30]:
                self.assertIs(shows_precedence(logs, log, first, later, evidence), True)
                some += 1
        self.assertGreater(some, 200)

    def test_evidence_for_another_later_cell(self):
        asked = 0
        for logs, log, first, later in questions(FAMILIES):
            wanted = {repr(evidence) for evidence in all_evidence(logs, log, first, later)}
            for other in cells_read(log):
                for thing in all_evidence(logs, log, first, other)[:3] if other not in (first, later) else ():
                    self.assertIs(shows_precedence(logs, log, first, later, thing), repr(thing) in wanted)
                    asked += repr(thing) not in wanted
        self.assertGreater(asked, 50)
        self.assertIs(shows_precedence(PAIR, PAIR[1], "a", "b", (("b",), (("c", PAIR[0]),))), False)

    def test_the_evidence_is_not_that_of_the_other_log(self):
        self.assertIsNone(evidence_of(PAIR, PAIR[0], "a", "b"))
        self.assertIs(shows_precedence(PAIR, PAIR[0], "a", "b", ((), (("b", PAIR[0]),))), False)
        self.assertIs(shows_precedence(PAIR, PAIR[0], "a", "b", ((), ())), False)


class ShowsPrecedenceTest(unittest.TestCase):
    def test_changed_evidence(self):
        asked = 0
        for logs, log, first, later in questions(FAMILIES[:25]):
            wanted = {repr(evidence) for evidence in all_evidence(logs, log, first, later)}
            for thing in changed(evidence_of(logs, log, first, later) or ((), ((later, logs[0]),))):
                with self.subTest(logs=logs, log=log, first=first, later=later, thing=thing):
                    self.assertIs(shows_precedence(logs, log, first, later, thing), repr(thing) in wanted)
                    asked += 1
        self.assertGreater(asked, 10000)

    def test_any_object(self):
        for thing in THINGS:
            with self.subTest(thing=thing):
                found = call(self, shows_precedence, logs=PAIR, log=PAIR[1], first="a", later="c", thing=thing)
                self.assertIs(found, False)
        evidence = evidence_of(PAIR, PAIR[1], "a", "c")
        self.assertEqual(all_evidence(PAIR, PAIR[1], "a", "c"), [evidence])
        closed, witnesses = evidence
        for thing in THINGS + DEEP_THINGS:
            for built in ((closed, thing), (thing, witnesses), (closed, (thing,)), (closed, (("c", thing),)),
                          (closed, ((thing, PAIR[0]),)), ((thing,), witnesses), (closed, witnesses, thing)):
                self.assertIs(shows_precedence(PAIR, PAIR[1], "a", "c", built), built == evidence)

    def test_closed(self):
        logs = tuple(sorted((
            (("a", 0), ("b", 0)), (("a", 1), ("b", 0), ("c", 0), ("d", 0)), (("a", 1), ("b", 0), ("c", 1)),
        )))
        log = logs[1]
        wanted = [(("b",), (("c", logs[0]), ("d", end))) for end in (logs[0], logs[2])]
        self.assertEqual(all_evidence(logs, log, "a", "d"), wanted)
        for closed in (("b", "b"), ["b"], ("b", "d"), ("a", "b"), ("b", "q"), ("q",), (None, "b"), (True,), "b", None):
            for witnesses in ((("c", logs[0]), ("d", logs[0])), (("c", logs[0]),), (("d", logs[0]),), ()):
                self.assertIs(shows_precedence(logs, log, "a", "d", (closed, witnesses)), False)

    def test_witnesses(self):
        closed, good = ("b",), (("c", PAIR[0]),)
        self.assertIs(shows_precedence(PAIR, PAIR[1], "a", "c", (closed, good)), True)
        for bad in ((), good * 2, (("c", PAIR[1]),), (("b", PAIR[0]),), (("a", PAIR[0]),) + good, list(good),
                    (["c", PAIR[0]],), (("c", list(PAIR[0])),), (("c", PAIR[0], None),), (("c",),),
                    (("c", (("a", False), ("b", 1))),), (("c", (("a", 0), ("b", True))),), (("c", (("a", 0),)),),
                    (("c", (("b", 1),)),), (("c", None),), {"c": PAIR[0]}):
            with self.subTest(bad=bad):
                self.assertIs(shows_precedence(PAIR, PAIR[1], "a", "c", (closed, bad)), False)

    def test_a_witness_agrees_on_closed(self):
        logs = ((("a", 0), ("b", 0)), (("a", 1), ("b", 1), ("c", 0)), (("a", 2), ("b", 1)))
        self.assertIs(shows_precedence(logs, logs[1], "a", "c", (("b",), (("c", logs[2]),))), True)
        self.assertIs(shows_precedence(logs, logs[1], "a", "c", (("b",), (("c", logs[0]),))), False)


class CellErrorsTest(unittest.TestCase):
    CALLS = ((order_against, {}), (evidence_of, {}), (shows_precedence, {"thing": None}))

    def refuse(self, error_class, **arguments):
        errors = [refused(self, error_class, function, **arguments, **more) for function, more in self.CALLS]
        self.assertEqual(len({repr(vars(error)) for error in errors}), 1)
        return errors[0]

    def test_no_logs_first(self):
        self.assertEqual(vars(self.refuse(NoLogs, logs=(), log=(), first="a", later="a")), {})

    def test_stuck_then(self):
        for log in CYCLE + (None, ()):
            error = self.refuse(Stuck, logs=CYCLE, log=log, first="a", later="a")
            self.assertIs(is_minimal_stuck(CYCLE, error.group), True)

    def test_not_a_log_then(self):
        for log in (None, (), LOGS, list(LOGS[0]), LOGS[0][:1], (("a", False), ("b", 1)), (("a", 0), ("b", True)), {}):
            error = self.refuse(NotALog, logs=LOGS, log=log, first="q", later=None)
            self.assertEqual(repr(vars(error)), repr({"log": log}))

    def test_the_first_cell_then(self):
        for cell in OTHER_CELLS + ("c",):
            for later in ("a", "b", cell, None):
                error = self.refuse(BadCell, logs=PAIR, log=PAIR[0], first=cell, later=later)
                self.assertEqual(repr(vars(error)), repr({"cell": cell}))

    def test_the_later_cell_then(self):
        for cell in OTHER_CELLS + ("c",):
            error = self.refuse(BadCell, logs=PAIR, log=PAIR[0], first="a", later=cell)
            self.assertEqual(repr(vars(error)), repr({"cell": cell}))

    def test_equal_cells_last(self):
        for cell in ("a", "b"):
            self.assertEqual(vars(self.refuse(BadCell, logs=PAIR, log=PAIR[0], first=cell, later=cell)), {"cell": cell})

    def test_the_empty_log(self):
        self.assertEqual(self.refuse(BadCell, logs=((),), log=(), first="a", later="b").cell, "a")

    def test_any_object(self):
        for thing in THINGS + DEEP_THINGS:
            if thing not in ("a", "b"):
                for function, more in self.CALLS:
                    for first, later in ((thing, "a"), ("a", thing), (thing, thing)):
                        with self.assertRaises(BadCell) as caught:
                            function(PAIR, PAIR[0], first, later, **more)
                        self.assertIs(caught.exception.cell, thing)
                    if thing is not PAIR[0]:
                        with self.assertRaises(NotALog) as caught:
                            function(PAIR, thing, "a", "b", **more)
                        self.assertIs(caught.exception.log, thing)


def orders_of(logs, reader):
    """The order of each log in the reader."""
    orders = dict(log_orders(reader))
    return tuple(orders[log] for log in logs)


def plainly_fit(pairs):
    """Whether two logs with an order are equal up to and including the first cell that differs."""
    (one, one_order), (other, other_order) = pairs
    for at, cell in enumerate(one_order):
        if other_order[at:at + 1] != (cell,):
            return False
        if dict(one)[cell] != dict(other)[cell]:
            return True
    return True


class OrdersFitTest(unittest.TestCase):
    def check(self, logs, orders, reader):
        """The reader is the one with these orders, None if there is none."""
        self.assertIs(call(self, orders_fit, logs=logs, orders=orders), reader is not None)
        if reader is not None:
            self.assertEqual(call(self, reader_with, logs=logs, orders=orders), reader)
            return
        error = refused(self, OrdersClash, reader_with, logs=logs, orders=orders)
        pairs = list(zip(logs, orders))
        clashes = [
            (one, other) for one, other in combinations(range(len(logs)), 2)
            if not plainly_fit((pairs[one], pairs[other]))
        ]
        self.assertEqual(vars(error), dict(zip(("one", "other"), min(clashes))))

    def test_all_orders_of_all_logs(self):
        clashes = 0
        for logs in FEW_READERS:
            readers = {orders_of(logs, reader): reader for reader in all_readers(logs)}
            self.assertEqual(len(readers), len(all_readers(logs)))
            tuples = list(product(*[all_orders(logs, log) for log in logs]))
            for orders in tuples[::1 + len(tuples) // 60]:
                with self.subTest(logs=logs, orders=orders):
                    self.check(logs, orders, readers.get(orders))
                    clashes += orders not in readers
        self.assertGreater(clashes, 100)

    def test_orders_of_readers_with_one_or_two_replaced(self):
        for logs in FEW_READERS:
            readers = {orders_of(logs, reader): reader for reader in all_readers(logs)}
            for orders in list(readers)[::7]:
                with self.subTest(logs=logs, orders=orders):
                    self.check(logs, orders, readers[orders])
                    for one, other in product(range(len(logs)), repeat=2):
                        changes = product(all_orders(logs, logs[one])[-2:], all_orders(logs, logs[other])[:2])
                        for first, second in changes:
                            new = list(orders)
                            new[one], new[other] = first, second
                            self.check(logs, tuple(new), readers.get(tuple(new)))

    def test_the_least_pair(self):
        logs = flat_logs(4, 2)
        one, other = ("aa", "ab"), ("ab", "aa")
        for orders, wanted in (
            ((one, one, other, other), {"one": 0, "other": 2}),
            ((one, one, one, other), {"one": 0, "other": 3}),
            ((one, other, other, one), {"one": 0, "other": 1}),
        ):
            self.assertEqual(vars(refused(self, OrdersClash, reader_with, logs=logs, orders=orders)), wanted)

    def test_the_least_pair_is_not_always_with_the_first(self):
        logs = ((("a", 0), ("b", 0)), (("a", 1), ("b", 0), ("c", 0)), (("a", 1), ("b", 0), ("c", 1)))
        orders = (("a", "b"), ("a", "b", "c"), ("a", "c", "b"))
        error = refused(self, OrdersClash, reader_with, logs=logs, orders=orders)
        self.assertEqual(vars(error), {"one": 1, "other": 2})
        self.assertIs(orders_fit(logs, orders), False)

    def test_any_reader_of_the_logs(self):
        logs = tuple(sorted(log + (("x", 0), ("y", place)) for place, log in enumerate(chain_logs(2, 2))))
        for prefer in ((), ("x",), ("y", "x"), ("ab", "y")):
            reader = reader_for(logs, prefer=prefer)
            self.check(logs, orders_of(logs, reader), reader)

    def test_one_log(self):
        logs = (log_of(3),)
        for order in permutations(cells_read(logs[0])):
            reader = call(self, reader_with, logs=logs, orders=(order,))
            self.assertEqual(orders_of(logs, reader), (order,))
            self.assertIs(is_reader_of(logs, reader), True)
        self.assertEqual(call(self, reader_with, logs=((),), orders=((),)), ())


class OrdersErrorsTest(unittest.TestCase):
    def refuse(self, error_class, **arguments):
        one = refused(self, error_class, orders_fit, **arguments)
        other = refused(self, error_class, reader_with, **arguments)
        self.assertTrue(same(vars(one), vars(other)))
        return one

    def test_no_logs_first(self):
        for orders in ((), None, ((),), "a"):
            self.assertEqual(vars(self.refuse(NoLogs, logs=(), orders=orders)), {})

    def test_stuck_then(self):
        for orders in ((), None, (("a", "b"), ("a", "c"), ("b", "c"))):
            self.assertEqual(self.refuse(Stuck, logs=CYCLE, orders=orders).group, CYCLE)

    def test_the_whole_object_then(self):
        order = ("a", "b")
        for orders in (None, (), (order,), (order,) * 3, [order] * 2, {0: order, 1: order}, "ab", 2, True, order[:1]):
            error = self.refuse(BadOrder, logs=TWO, orders=orders)
            self.assertEqual(repr(vars(error)), repr({"order": orders}))

    def test_the_first_wrong_entry_then(self):
        good = ("b", "a")
        wrong = ((), ("a",), ("a", "a"), ("a", "b", "c"), ["a", "b"], ("a", "q"), ("a", 0), ("a", ["b"]), "ab", None)
        for bad in wrong:
            for orders in ((bad, good), (good, bad), (bad, "z")):
                with self.subTest(orders=orders):
                    error = self.refuse(BadOrder, logs=TWO, orders=orders)
                    self.assertEqual(repr(vars(error)), repr({"order": bad}))
        self.assertEqual(self.refuse(BadOrder, logs=PAIR, orders=(("a", "b"), ("b", "c", "a"))).order, ("b", "c", "a"))

    def test_bad_orders_ahead_of_clashes(self):
        orders = (("a", "b"), ("b", "a"), ("c",))
        logs = ((("a", 0), ("b", 0)), (("a", 1), ("b", 0)), (("a", 2), ("b", 0)))
        self.assertEqual(self.refuse(BadOrder, logs=logs, orders=orders).order, ("c",))

    def test_any_object(self):
        good = ("a", "b")
        for thing in THINGS + DEEP_THINGS:
            wrong = [(thing, thing), (thing,) * 2] + [(good, thing)] if thing not in (good, good[::-1]) else []
            wrong += [(good, ("a", thing))] if thing != "b" else []
            wrong += [thing] if not isinstance(thing, tuple) or len(thing) != 2 else []
            for orders in wrong:
                for function in (orders_fit, reader_with):
                    with self.assertRaises(BadOrder) as caught:
                        function(TWO, orders)
                    self.assertIs(caught.exception.order, self.wanted(orders, thing))

    def wanted(self, orders, thing):
        """What the error has of these orders: the whole of it or the first wrong entry."""
        if orders is thing:
            return thing
        return [order for order in orders if order != ("a", "b")][0]


class ManyCellsTest(unittest.TestCase):
    def test_a_chain(self):
        log = LONGEST_CHAIN[0]
        cells = cells_read(log)
        for first, later in (("aa", "ch"), ("aa", "ab"), ("bm", "ch"), ("cg", "ch"), ("ch", "aa"), ("ab", "aa")):
            order = call(self, order_against, logs=LONGEST_CHAIN, log=log, first=first, later=later)
            evidence = call(self, evidence_of, logs=LONGEST_CHAIN, log=log, first=first, later=later)
            if first < later:
                self.assertIsNone(order)
                self.assertEqual(evidence[0], tuple(cell for cell in cells if cell < first))
                self.assertIs(shows_precedence(LONGEST_CHAIN, log, first, later, evidence), True)
            else:
                self.assertEqual(order, cells)
                self.assertIsNone(evidence)

    def test_all_cells_at_once(self):
        log = WIDEST[299]
        for first, later in (("aa", "ch"), ("ch", "aa")):
            order = call(self, order_against, logs=WIDEST, log=log, first=first, later=later)
            self.assertLess(order.index(later), order.index(first))
            self.assertIsNone(call(self, evidence_of, logs=WIDEST, log=log, first=first, later=later))

    def test_orders_of_many_logs(self):
        for logs in (LONGEST_CHAIN, WIDEST):
            orders = tuple(cells_read(log) for log in logs)
            self.assertIs(call(self, orders_fit, logs=logs, orders=orders), True)
            self.assertEqual(call(self, reader_with, logs=logs, orders=orders), reader_for(logs))
        orders = tuple(cells_read(log) for log in WIDEST[:299]) + (cells_read(WIDEST[0])[::-1],)
        self.assertIs(orders_fit(WIDEST, orders), False)
        error = refused(self, OrdersClash, reader_with, logs=WIDEST, orders=orders)
        self.assertEqual(vars(error), {"one": 0, "other": 299})


if __name__ == "__main__":
    unittest.main()
