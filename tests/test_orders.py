"""Point [9], and [3] (c): the possible orders of a log."""

import unittest
from functools import lru_cache
from itertools import combinations, product
from math import factorial

from readorder.errors import BadOrder, NoLogs, NotALog, Stuck, TooLarge
from readorder.groups import is_minimal_stuck
from readorder.orders import closure, count_orders, is_order, next_cells, precedence, rounds
from tests.brute import (
    agree_on, all_cells, all_orders, all_readers, cells_read, log_orders, readable_families, shared,
)
from tests.support import (
    CYCLE, DEEP_THINGS, LOGS, LONGEST_CHAIN, PAIR, THINGS, TWO, WIDEST, call, chain_logs, changed, flat_logs,
    log_of, name, refused,
)

FAMILIES = (
    (LOGS, PAIR, TWO, ((),), ((("a", 1),),), (log_of(4),), chain_logs(4, 2), flat_logs(3, 3))
    + tuple(readable_families(60)) + tuple(readable_families(40, "abcde", 5, 2, 9, seed=6))
)
FEW_READERS = tuple(logs for logs in readable_families(80, most=6, seed=7) if len(all_readers(logs)) <= 200)
LAST = LONGEST_CHAIN[0]
BEFORE_ALL = ((("a", 0),), (("a", 1),) + tuple((name(at), 0) for at in range(26, 37)))


def pairs_of(families):
    """Each log of the families, with the logs that it is one of."""
    return [(logs, log) for logs in families for log in logs]


def precedes(order, first, later):
    return order.index(first) < order.index(later)


class AllOrdersTest(unittest.TestCase):
    """The functions against all possible orders, listed by the definition."""

    def test_the_list_is_that_of_the_readers(self):
        for logs in FEW_READERS:
            found = {log: set() for log in logs}
            for reader in all_readers(logs):
                for log, order in log_orders(reader):
                    found[log].add(order)
            for log in logs:
                self.assertEqual(found[log], set(all_orders(logs, log)))

    def test_next_cells(self):
        for logs, log in pairs_of(FAMILIES):
            orders = all_orders(logs, log)
            begun = {order[:many] for order in orders for many in range(len(order) + 1)}
            for done in sorted(begun):
                with self.subTest(logs=logs, log=log, done=done):
                    wanted = {order[len(done)] for order in orders if order[:len(done)] == done and order != done}
                    self.assertEqual(call(self, next_cells, logs=logs, log=log, done=done), tuple(sorted(wanted)))
            for order in orders:
                self.assertEqual(next_cells(logs, log, order), ())

    def test_is_order(self):
        for logs, log in pairs_of(FAMILIES):
            orders = all_orders(logs, log)
            for order in orders:
                with self.subTest(logs=logs, log=log, order=order):
                    self.assertIs(call(self, is_order, logs=logs, log=log, thing=order), True)
                    for thing in {order[::-1], order[1:], order[:-1], order[1:] + order[:1], order + order[:1]}:
                        self.assertIs(is_order(logs, log, thing), thing in orders)

    def test_count_orders(self):
        for logs, log in pairs_of(FAMILIES):
            with self.subTest(logs=logs, log=log):
                wanted = len(all_orders(logs, log))
                self.assertGreater(wanted, 0)
                self.assertEqual(call(self, count_orders, logs=logs, log=log), wanted)

    def test_closure(self):
        for logs, log in pairs_of(FAMILIES[:60]):
            cells = cells_read(log)
            for size in range(len(cells) + 1):
                for avoid in combinations(cells, size):
                    wanted = set()
                    for order in all_orders(logs, log):
                        ends = [at for at, cell in enumerate(order) if cell in avoid] or [len(order)]
                        wanted.update(order[:ends[0]])
                    with self.subTest(logs=logs, log=log, avoid=avoid):
                        found = call(self, closure, logs=logs, log=log, avoid=avoid)
                        self.assertEqual(found, tuple(sorted(wanted)))
                        self.assertEqual(closure(logs, log, ("q",) + avoid[::-1] + avoid[:1] + ("zz",)), found)

    def test_precedence(self):
        for logs, log in pairs_of(FAMILIES):
            cells = cells_read(log)
            wanted = tuple(
                (first, later) for first, later in product(cells, cells)
                if first != later and all(precedes(order, first, later) for order in all_orders(logs, log))
            )
            with self.subTest(logs=logs, log=log):
                self.assertEqual(call(self, precedence, logs=logs, log=log), wanted)

    def test_rounds(self):
        for logs, log in pairs_of(FAMILIES):
            wanted = []
            done = ()
            while len(done) < len(log):
                ready = tuple(cell for cell in shared(agree_on(logs, log, done)) if cell not in done)
                wanted.append(ready)
                done += ready
            with self.subTest(logs=logs, log=log):
                found = call(self, rounds, logs=logs, log=log)
                self.assertEqual(found, tuple(wanted))
                self.assertIn(done, all_orders(logs, log))


class AnyObjectTest(unittest.TestCase):
    """Objects of all kinds where an order or the beginning of one is wanted."""

    def check(self, logs, log, things):
        orders = {repr(order) for order in all_orders(logs, log)}
        begun = {repr(order[:many]) for order in all_orders(logs, log) for many in range(len(order) + 1)}
        for thing in things:
            with self.subTest(logs=logs, log=log, thing=thing):
                self.assertIs(call(self, is_order, logs=logs, log=log, thing=thing), repr(thing) in orders)
                if repr(thing) in begun:
                    self.assertIs(type(next_cells(logs, log, thing)), tuple)
                else:
                    error = refused(self, BadOrder, next_cells, logs=logs, log=log, done=thing)
                    self.assertEqual(repr(vars(error)), repr({"order": thing}))

    def test_all_kinds(self):
        for logs, log in ((PAIR, PAIR[1]), (LOGS, LOGS[0]), (((),), ())):
            self.check(logs, log, THINGS)

    def test_changed_orders(self):
        for logs, log in pairs_of(FAMILIES[:12]):
            for order in all_orders(logs, log)[:3]:
                self.check(logs, log, list(changed(order)))

    def test_every_tuple_of_a_few_cells(self):
        for logs in (PAIR, LOGS, TWO):
            for log in logs:
                for size in range(5):
                    self.check(logs, log, list(product("abcq", repeat=size)))

    def test_deep_ones(self):
        for thing in DEEP_THINGS:
            for entry in (thing, (thing,), ("a", thing), ("a", "c", thing)):
                self.assertIs(is_order(PAIR, PAIR[1], entry), False)
                with self.assertRaises(BadOrder) as caught:
                    next_cells(PAIR, PAIR[1], entry)
                self.assertIs(caught.exception.order, entry)

    def test_no_part_of_it_is_done_twice(self):
        for done in (("a", "a"), ("a", "b", "a"), ("b", "b", "a", "c")):
            self.assertEqual(refused(self, BadOrder, next_cells, logs=PAIR, log=PAIR[1], done=done).order, done)


class ErrorsTest(unittest.TestCase):
    """NoLogs, Stuck, NotALog, and then what else is due, in this order."""

    CALLS = (
        (next_cells, {"done": None}),
        (next_cells, {"done": ()}),
        (is_order, {"thing": ()}),
        (count_orders, {}),
        (closure, {"avoid": ("q",)}),
        (precedence, {}),
        (rounds, {}),
    )
    OTHERS = (
        None, True, 0, "", "a", [], {}, (), list(LOGS[0]), LOGS, LOGS[0] + (("q", 0),), LOGS[0][:1], log_of(13),
    )

    def test_no_logs_first(self):
        for function, more in self.CALLS:
            for log in ((), None, log_of(13), {}):
                error = refused(self, NoLogs, function, logs=(), log=log, **more)
                self.assertEqual(vars(error), {})

    def test_stuck_then(self):
        for function, more in self.CALLS:
            for log in (CYCLE[0], None, log_of(13), [[]]):
                error = refused(self, Stuck, function, logs=CYCLE, log=log, **more)
                self.assertIs(is_minimal_stuck(CYCLE, error.group), True)

    def test_not_a_log_then(self):
        for function, more in self.CALLS:
            for log in self.OTHERS:
                error = refused(self, NotALog, function, logs=LOGS, log=log, **more)
                self.assertEqual(repr(vars(error)), repr({"log": log}))

    def test_any_object_is_no_log_of_them(self):
        for function, more in self.CALLS:
            for log in THINGS[::7] + tuple(changed(LOGS[2])):
                if repr(log) not in [repr(other) for other in LOGS]:
                    self.assertEqual(repr(refused(self, NotALog, function, logs=LOGS, log=log, **more).log), repr(log))
            for log in DEEP_THINGS:
                for thing in (log, (log,), (log, log), (("a", log),)):
                    with self.assertRaises(NotALog) as caught:
                        function(LOGS, thing, **more)
                    self.assertIs(caught.exception.log, thing)

    def test_true_is_not_one(self):
        for function, more in self.CALLS:
            for log in ((("a", 0), ("b", True)), (("a", False), ("b", 1)), (("a", False), ("b", True))):
                self.assertEqual(repr(refused(self, NotALog, function, logs=PAIR, log=log, **more).log), repr(log))

    def test_too_large_last(self):
        logs = (log_of(13),)
        self.assertEqual(vars(refused(self, TooLarge, count_orders, logs=logs, log=logs[0])), {"limit": 12})
        refused(self, NotALog, count_orders, logs=logs, log=log_of(12))

    def test_bad_order_last(self):
        error = refused(self, BadOrder, next_cells, logs=LOGS, log=LOGS[0], done=("b",))
        self.assertEqual(vars(error), {"order": ("b",)})
        refused(self, NotALog, next_cells, logs=LOGS, log=LOGS[0][:1], done=("b",))


class ManyCellsTest(unittest.TestCase):
    def test_counts_of_twelve_cells(self):
        self.assertEqual(call(self, count_orders, logs=(log_of(12),), log=log_of(12)), factorial(12))
        self.assertEqual(count_orders(flat_logs(300, 12), flat_logs(300, 12)[150]), factorial(12))
        self.assertEqual(count_orders(BEFORE_ALL, BEFORE_ALL[1]), factorial(11))
        self.assertEqual(count_orders(chain_logs(12, 2), chain_logs(12, 2)[0]), 1)
        self.assertEqual(count_orders(((),), ()), 1)

    def test_counts_of_twelve_cells_against_the_next_cells(self):
        cells = tuple(name(at) for at in range(12))
        logs = tuple(sorted((
            tuple((cell, 0) for cell in cells),
            tuple((cell, 0) for cell in cells[:2]) + ((cells[2], 1),),
            tuple((cell, 0) for cell in cells[:4]) + ((cells[5], 0), (cells[6], 1)),
            tuple((cell, 0) for cell in cells[:9]) + tuple((cell, 1) for cell in cells[9:11]),
        )))

        @lru_cache(maxsize=None)
        def ways(done):
            return len(done) == 12 or sum(ways(tuple(sorted(done + (cell,)))) for cell in next_of[done])

        # Which cells come next depends on which are done, not on their order.
        next_of, waiting = {}, [()]
        while waiting:
            order = waiting.pop()
            if tuple(sorted(order)) not in next_of:
                next_of[tuple(sorted(order))] = next_cells(logs, logs[0], order)
                waiting.extend(order + (cell,) for cell in next_cells(logs, logs[0], order))
        self.assertEqual(count_orders(logs, logs[0]), ways(()))

    def test_thirteen_cells(self):
        for logs in (flat_logs(2, 13), chain_logs(13, 1)):
            log = logs[0]
            self.assertEqual(len(log), 13)
            self.assertEqual(refused(self, TooLarge, count_orders, logs=logs, log=log).limit, 12)

    def test_a_chain(self):
        cells = tuple(name(at) for at in range(60))
        self.assertEqual(cells_read(LAST), cells)
        for many in (0, 1, 30, 59):
            found = call(self, next_cells, logs=LONGEST_CHAIN, log=LAST, done=cells[:many])
            self.assertEqual(found, cells[many:many + 1])
        self.assertIs(call(self, is_order, logs=LONGEST_CHAIN, log=LAST, thing=cells), True)
        self.assertIs(is_order(LONGEST_CHAIN, LAST, cells[:58] + cells[59:] + cells[58:59]), False)
        self.assertEqual(call(self, closure, logs=LONGEST_CHAIN, log=LAST, avoid=()), cells)
        self.assertEqual(call(self, closure, logs=LONGEST_CHAIN, log=LAST, avoid=("bm", "q", "bn")), cells[:38])
        self.assertEqual(call(self, rounds, logs=LONGEST_CHAIN, log=LAST), tuple((cell,) for cell in cells))
        self.assertEqual(call(self, precedence, logs=LONGEST_CHAIN, log=LAST), tuple(combinations(cells, 2)))

    def test_all_cells_at_once(self):
        cells = all_cells(WIDEST)
        log = WIDEST[299]
        self.assertEqual(call(self, next_cells, logs=WIDEST, log=log, done=cells[30:] + cells[1:30]), cells[:1])
        self.assertIs(call(self, is_order, logs=WIDEST, log=log, thing=cells[::-1]), True)
        self.assertEqual(call(self, closure, logs=WIDEST, log=log, avoid=cells[1:]), cells[:1])
        self.assertEqual(call(self, rounds, logs=WIDEST, log=log), (cells,))
        self.assertEqual(call(self, precedence, logs=WIDEST, log=log), ())

    def test_somewhat_beyond_the_limits(self):
        logs = chain_logs(70, 5)
        self.assertEqual(len(rounds(logs, logs[0])), 70)
        long_name = ((("abcdefghi", 10 ** 9 + 1),),)
        self.assertEqual(rounds(long_name, long_name[0]), (("abcdefghi",),))


if __name__ == "__main__":
    unittest.main()
