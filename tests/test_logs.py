"""Point [4]: logs."""

import unittest
from itertools import combinations, product

from readorder.logs import agreeing, cells_in, differing, is_log, is_logs, shared_cells, value_in
from tests.support import DEEP_THINGS, LETTERS, LOGS, THINGS, call, log_of, many_logs, name, wrapped

SMALL_LOGS = tuple(
    tuple((cell, value) for cell, value in zip("abc", values) if value is not None)
    for values in product((None, 0, 1), repeat=3)
)


def plainly_a_log(thing):
    """What the document says of a log, word by word."""
    if type(thing) is not tuple or len(thing) > 60:
        return False
    for pair in thing:
        if type(pair) is not tuple or len(pair) != 2:
            return False
        if type(pair[0]) is not str or type(pair[1]) is not int:
            return False
        if len(pair[0]) not in range(1, 9) or set(pair[0]) - set(LETTERS):
            return False
        if pair[1] < 0 or pair[1] > 10 ** 9:
            return False
    cells = [pair[0] for pair in thing]
    return sorted(thing) == list(thing) and len(set(cells)) == len(cells)


def plainly_logs(thing):
    """What the document says of logs, word by word."""
    if type(thing) is not tuple or len(thing) > 300:
        return False
    if not all(plainly_a_log(log) for log in thing):
        return False
    return sorted(set(thing)) == list(thing)


class IsLogTest(unittest.TestCase):
    def yes(self, thing):
        self.assertIs(call(self, is_log, thing=thing), True)

    def no(self, thing):
        self.assertIs(call(self, is_log, thing=thing), False)

    def test_ordinary_logs(self):
        for log in LOGS + SMALL_LOGS:
            self.yes(log)

    def test_the_empty_log(self):
        self.yes(())

    def test_any_object(self):
        for thing in THINGS:
            with self.subTest(thing=thing):
                self.assertIs(call(self, is_log, thing=thing), plainly_a_log(thing))

    def test_other_kinds(self):
        for thing in (0, 1, True, False, None, "", "a", "a=0", [], {}, ("a", 0), [("a", 0)], {"a": 0}, {("a", 0): 1}):
            self.no(thing)

    def test_pairs_of_other_kinds(self):
        for pair in (None, 0, "", "a", "ab", (), ("a",), ("a", 0, 0), ["a", 0], {"a": 0}, (0, "a"), (("a", 0),)):
            self.no((pair,))
            self.no((("a", 0), pair))
            self.no((pair, ("z", 0)))

    def test_names(self):
        for cell in ("a", "z", "az", "abcdefgh", "zzzzzzzz", "and", "none"):
            self.yes(((cell, 0),))
        for cell in ("", "abcdefghi", "a" * 9, "a" * 100, 0, None, True, ("a",), ["a"], b"a"):
            self.no(((cell, 0),))

    def test_signs(self):
        for number in range(0x250):
            sign = chr(number)
            for cell in (sign, "a" + sign, sign + "z"):
                self.assertIs(is_log(((cell, 0),)), sign in LETTERS)
        for sign in ("\u0430", "\uff41", "\u00df", "\u2170", "\U0001d41a", "\udc80", "a\n", " a", "`", "{"):
            self.no(((sign, 0),))

    def test_values(self):
        for value in (0, 1, 9, 10 ** 9 - 1, 10 ** 9):
            self.yes((("a", value),))
        for value in (-1, 10 ** 9 + 1, -10 ** 9, 10 ** 30, True, False, None, "0", "", (0,), (), [0], {}):
            self.no((("a", value),))

    def test_order_of_pairs(self):
        self.yes((("a", 5), ("b", 0)))
        self.no((("b", 0), ("a", 5)))
        self.no((("b", 1), ("a", 0)))
        self.yes((("a", 0), ("aa", 0), ("ab", 0), ("b", 0)))
        self.no((("a", 0), ("b", 0), ("ab", 0)))

    def test_one_pair_for_each_cell(self):
        self.no((("a", 0), ("a", 0)))
        self.no((("a", 0), ("a", 1)))
        self.no((("a", 0), ("b", 0), ("b", 1), ("c", 0)))
        self.no((("a", 0), ("b", 0), ("a", 0)))

    def test_sixty_pairs(self):
        self.yes(log_of(59))
        self.yes(log_of(60))
        self.no(log_of(61))
        self.no(log_of(300))
        self.no(tuple(reversed(log_of(60))))
        self.no(log_of(59) + (("zz", True),))

    def test_deeper_objects(self):
        for place, thing in enumerate(DEEP_THINGS):
            with self.subTest(place=place):
                self.assertIs(is_log(thing), False)
                self.assertIs(is_log((("a", 0), thing)), False)
                self.assertIs(is_log((("a", thing),)), False)
                self.assertIs(is_log(((thing, 0),)), False)


class IsLogsTest(unittest.TestCase):
    def yes(self, thing):
        self.assertIs(call(self, is_logs, thing=thing), True)

    def no(self, thing):
        self.assertIs(call(self, is_logs, thing=thing), False)

    def test_ordinary_logs(self):
        self.yes(LOGS)
        self.yes(LOGS[:1])
        self.yes(tuple(sorted(SMALL_LOGS)))

    def test_no_logs_and_the_empty_log(self):
        self.yes(())
        self.yes(((),))
        self.yes(((), (("a", 0),)))
        self.no(((("a", 0),), ()))
        self.no(((), ()))

    def test_any_object(self):
        for thing in THINGS:
            with self.subTest(thing=thing):
                self.assertIs(call(self, is_logs, thing=thing), plainly_logs(thing))
                self.assertIs(call(self, is_logs, thing=((), thing)), plainly_logs(((), thing)))

    def test_other_kinds(self):
        for thing in (0, True, None, "", "a", [], {}, LOGS[0], list(LOGS), {"a": 0}, (None,), ("a",), (0,)):
            self.no(thing)
        self.no((LOGS[0], list(LOGS[1]), LOGS[2]))
        self.no((LOGS[0], list(LOGS[2])))
        self.no((LOGS,))

    def test_order_and_duplicates(self):
        for one, other in product(SMALL_LOGS, repeat=2):
            self.assertIs(is_logs((one, other)), one < other)
        self.no(tuple(reversed(LOGS)))
        self.no(LOGS + LOGS[-1:])
        self.no(LOGS[:1] + LOGS)
        self.yes(((("a", 2),), (("a", 10),)))
        self.no(((("a", 10),), (("a", 2),)))

    def test_each_is_a_log(self):
        for bad in ((("a", True),), (("a", -1),), (("a", 10 ** 9 + 1),), (("A", 0),), (("b", 0), ("a", 0)), ("a", 0)):
            self.no((bad,))
            self.no(((), bad))

    def test_three_hundred_logs(self):
        self.yes(many_logs(299))
        self.yes(many_logs(300))
        self.no(many_logs(301))
        self.no(many_logs(1000))

    def test_sixty_pairs_in_each(self):
        self.yes((log_of(59), log_of(60)))
        self.no((log_of(60), log_of(61)))
        self.no((log_of(61),))
        full = tuple(log_of(59) + (("zz", value),) for value in range(300))
        self.yes(full)
        self.no(full[:299] + (log_of(59) + (("zz", 299), ("zzz", 0)),))

    def test_deeper_objects(self):
        for place, thing in enumerate(DEEP_THINGS):
            with self.subTest(place=place):
                self.assertIs(is_logs(thing), False)
                self.assertIs(is_logs((thing,)), False)
                self.assertIs(is_logs(((), thing)), False)
                self.assertIs(is_logs(((), (("a", thing),))), False)
        self.assertIs(is_logs((wrapped((), 30, lambda thing: [thing]),)), False)


class ValueInTest(unittest.TestCase):
    def test_each_cell(self):
        for log in SMALL_LOGS:
            for cell in ("a", "b", "c", "d", "aa"):
                wanted = [pair[1] for pair in log if pair[0] == cell]
                found = call(self, value_in, log=log, cell=cell)
                self.assertEqual(found, wanted[0] if wanted else None)

    def test_edges(self):
        self.assertIsNone(call(self, value_in, log=(), cell="a"))
        self.assertIs(call(self, value_in, log=(("a", 0),), cell="a"), 0)
        self.assertIsNone(call(self, value_in, log=(("a", 0),), cell="b"))
        self.assertEqual(call(self, value_in, log=(("abcdefgh", 10 ** 9),), cell="abcdefgh"), 10 ** 9)
        for number in range(60):
            self.assertEqual(value_in(log_of(60), name(number)), number)
        self.assertIsNone(value_in(log_of(60), name(60)))


class CellsTest(unittest.TestCase):
    def check(self, logs):
        sets = [{pair[0] for pair in log} for log in logs]
        self.assertEqual(call(self, cells_in, logs=logs), tuple(sorted(set().union(*sets))))
        shared = tuple(sorted(set.intersection(*sets))) if sets else ()
        self.assertEqual(call(self, shared_cells, logs=logs), shared)

    def test_groups_of_small_logs(self):
        for many in range(4):
            for logs in combinations(sorted(SMALL_LOGS), many):
                self.check(logs)

    def test_no_logs_and_the_empty_log(self):
        self.assertEqual(call(self, cells_in, logs=()), ())
        self.assertEqual(call(self, shared_cells, logs=()), ())
        self.assertEqual(cells_in(((),)), ())
        self.assertEqual(shared_cells(((),)), ())
        self.assertEqual(cells_in(((), (("a", 0),))), ("a",))
        self.assertEqual(shared_cells(((), (("a", 0),))), ())

    def test_other_values_do_not_matter(self):
        logs = ((("a", 0), ("b", 0)), (("a", 1), ("b", 0)))
        self.assertEqual(shared_cells(logs), ("a", "b"))
        self.assertEqual(cells_in(logs), ("a", "b"))

    def test_order_of_the_result(self):
        logs = ((("ab", 0), ("z", 0)), (("a", 0), ("z", 1)), (("b", 0), ("z", 2)))
        self.assertEqual(cells_in(tuple(sorted(logs))), ("a", "ab", "b", "z"))
        logs = ((("a", 0), ("ab", 0), ("b", 0), ("z", 0)), (("a", 1), ("ab", 1), ("b", 1), ("z", 1)))
        self.assertEqual(shared_cells(logs), ("a", "ab", "b", "z"))

    def test_the_limits(self):
        self.check(many_logs(300))
        self.check(tuple(log_of(59) + (("zz", value),) for value in range(300)))
        self.check(tuple(sorted(tuple((name(60 * at + k), 0) for k in range(60)) for at in range(11))))


class AgreeingTest(unittest.TestCase):
    def check(self, logs, known):
        wanted = tuple(log for log in logs if set(known) <= set(log))
        self.assertEqual(call(self, agreeing, logs=logs, known=known), wanted)

    def test_small_logs(self):
        logs = tuple(sorted(SMALL_LOGS))
        for known in SMALL_LOGS:
            self.check(logs, known)
            self.check(logs[::2], known)

    def test_edges(self):
        self.check((), ())
        self.check((), (("a", 0),))
        self.assertEqual(call(self, agreeing, logs=LOGS, known=()), LOGS)
        self.assertEqual(agreeing(((),), ()), ((),))
        self.assertEqual(agreeing(((),), (("a", 0),)), ())
        self.assertEqual(agreeing(LOGS, (("d", 0),)), ())
        self.assertEqual(agreeing(LOGS, (("a", 0), ("d", 0))), ())
        self.assertEqual(agreeing(LOGS, LOGS[1]), LOGS[1:2])
        self.assertEqual(agreeing(LOGS, (("a", 0), ("b", 3))), ())

    def test_the_limits(self):
        logs = tuple(log_of(59) + (("zz", value),) for value in range(300))
        self.check(logs, log_of(59))
        self.check(logs, logs[299])
        self.check(logs, log_of(60))


class DifferingTest(unittest.TestCase):
    def test_small_logs(self):
        for one, other in product(SMALL_LOGS, repeat=2):
            wanted = [cell for cell in "abc" if {dict(one).get(cell), dict(other).get(cell)} == {0, 1}]
            self.assertEqual(call(self, differing, one=one, other=other), tuple(wanted))

    def test_edges(self):
        self.assertEqual(call(self, differing, one=(), other=()), ())
        self.assertEqual(differing((("a", 0),), ()), ())
        self.assertEqual(differing((), (("a", 0),)), ())
        self.assertEqual(differing((("a", 0),), (("b", 1),)), ())
        self.assertEqual(differing((("a", 0),), (("a", 10 ** 9),)), ("a",))
        self.assertEqual(differing(LOGS[0], LOGS[0]), ())

    def test_sixty_cells(self):
        one = log_of(60)
        other = tuple((cell, value + value % 2) for cell, value in one)
        self.assertEqual(differing(one, other), tuple(name(number) for number in range(1, 60, 2)))


if __name__ == "__main__":
    unittest.main()
