"""Point [16], and [3] (f): how many readers there are, and what logs cover."""

import unittest
from itertools import product
from math import factorial
from random import Random

from readorder.adding import can_add
from readorder.counting import count_readers, covered, is_complete
from readorder.errors import BadSizes, Stuck, TooLarge
from readorder.groups import is_minimal_stuck
from tests.brute import (
    all_cells, all_readers, log_orders, minimal_stuck_groups, random_families, random_reader, readable,
    readable_families, small_families,
)
from tests.support import (
    CYCLE, DEEP_THINGS, LETTERS, LOGS, LONGEST_CHAIN, PAIR, THINGS, TWO, WIDEST, call, chain_logs, changed, flat_logs,
    lacking_one, log_of, many_logs, name, refused, same,
)

FAMILIES = (
    (LOGS, PAIR, TWO, ((),), ((("a", 1), ("b", 0)),), (log_of(4),), chain_logs(3, 2), flat_logs(3, 3))
    + tuple(readable_families(100, most=6, seed=51)) + tuple(readable_families(60, "abc", 3, 3, 7, seed=52))
)


def sizes_of(logs, more=(), least=1):
    """Sizes of all cells of the logs, each above its values, and of more cells."""
    greatest = {cell: least for cell in (*all_cells(logs), *more)}
    for log in logs:
        for cell, value in log:
            greatest[cell] = max(greatest[cell], value + 1)
    return tuple(sorted(greatest.items()))


def assignments_of(sizes):
    """All assignments of the sizes, as dicts."""
    cells = [cell for cell, _ in sizes]
    for values in product(*[range(size) for _, size in sizes]):
        yield dict(zip(cells, values))


def covering(logs, assignment):
    """The logs that cover the assignment."""
    return [log for log in logs if all(assignment.get(cell) == value for cell, value in log)]


def plainly_sizes(logs, thing):
    """What the document says of sizes that have all cells of the logs, word by word."""
    if type(thing) is not tuple:
        return False
    for pair in thing:
        if type(pair) is not tuple or len(pair) != 2:
            return False
        if type(pair[0]) is not str or type(pair[1]) is not int:
            return False
        if len(pair[0]) not in range(1, 9) or set(pair[0]) - set(LETTERS) or not 1 <= pair[1] <= 10 ** 9:
            return False
    cells = [pair[0] for pair in thing]
    return sorted(set(cells)) == cells and set(cells) >= set(all_cells(logs))


class CountReadersTest(unittest.TestCase):
    def check(self, logs, wanted):
        self.assertEqual(call(self, count_readers, logs=logs), wanted)

    def test_all_readers(self):
        for logs in FAMILIES + tuple(readable_families(30, "abcde", 4, 2, 5, seed=53)):
            with self.subTest(logs=logs):
                self.check(logs, len(set(all_readers(logs))))

    def test_all_small_logs(self):
        for logs in small_families():
            if logs and readable(logs):
                self.check(logs, len(set(all_readers(logs))))

    def test_no_logs(self):
        self.check((), 0)

    def test_the_empty_log(self):
        self.check(((),), 1)

    def test_one_log(self):
        for pairs in range(13):
            self.check((log_of(pairs),), factorial(pairs))

    def test_great_numbers(self):
        self.check(flat_logs(60, 12), 12 * factorial(11) ** 60)
        self.check(flat_logs(2, 12), 12 * factorial(11) ** 2)
        self.check(many_logs(60), 1)
        self.check(chain_logs(12, 5), 1)
        logs = tuple((("a", value),) + log_of(11) for value in range(60))
        # The eleven other cells tell nothing: "a" is read at any place among them.
        wanted = sum(factorial(11) // factorial(11 - ahead) * factorial(11 - ahead) ** 60 for ahead in range(12))
        self.check(logs, wanted)

    def test_sixty_logs_of_all_kinds(self):
        random = Random(54)
        logs = ()
        while len(logs) < 60:
            reader = random_reader(random, tuple(name(at) for at in range(12)), 9, 2)
            logs = tuple(sorted(log for log, _ in log_orders(reader)))[:60]
        self.assertGreater(call(self, count_readers, logs=logs), 0)
        renamed = tuple(sorted(tuple(sorted((cell[::-1], value) for cell, value in log)) for log in logs))
        self.assertEqual(count_readers(renamed), count_readers(logs))

    def test_twelve_cells_and_one_more(self):
        logs = tuple((("a", value), (name(value), 0)) for value in range(11))
        self.check(logs, 1)
        more = tuple((("a", value), (name(value), 0)) for value in range(12))
        for many in (more, (log_of(13),), WIDEST[:3], LONGEST_CHAIN[:10]):
            self.assertEqual(vars(refused(self, TooLarge, count_readers, logs=many)), {"limit": 12})

    def test_sixty_logs_and_one_more(self):
        self.check(flat_logs(60, 1), 1)
        for logs in (flat_logs(61, 1), many_logs(300), flat_logs(61, 12), chain_logs(12, 6)[:61]):
            self.assertEqual(vars(refused(self, TooLarge, count_readers, logs=logs)), {"limit": 60})

    def test_both_at_once(self):
        for logs in (flat_logs(61, 13), LONGEST_CHAIN, WIDEST):
            self.assertEqual(vars(refused(self, TooLarge, count_readers, logs=logs)), {"limit": 12})

    def test_stuck_first(self):
        for logs in (CYCLE, ((), (("a", 0),)), lacking_one(5), lacking_one(13), lacking_one(61)):
            error = refused(self, Stuck, count_readers, logs=logs)
            self.assertEqual(list(vars(error)), ["group"])
            self.assertIs(is_minimal_stuck(logs, error.group), True)

    def test_all_random_logs(self):
        for logs in random_families(150, seed=55):
            if not logs or readable(logs):
                self.check(logs, len(set(all_readers(logs))) if logs else 0)
            else:
                self.assertIn(refused(self, Stuck, count_readers, logs=logs).group, minimal_stuck_groups(logs))


class CoveredTest(unittest.TestCase):
    def check(self, logs, sizes, wanted, complete):
        self.assertEqual(call(self, covered, logs=logs, sizes=sizes), wanted)
        self.assertIs(call(self, is_complete, logs=logs, sizes=sizes), complete)

    def test_all_assignments(self):
        asked = 0
        for logs in FAMILIES:
            for sizes in (sizes_of(logs), sizes_of(logs, ("aaa", "z")), sizes_of(logs, (), 3),
                    sizes_of(logs, ("q",), 2)):
                if len(list(assignments_of(sizes))) <= 400:
                    counts = [len(covering(logs, assignment)) for assignment in assignments_of(sizes)]
                    with self.subTest(logs=logs, sizes=sizes):
                        self.assertLessEqual(max(counts), 1)
                        self.check(logs, sizes, sum(counts), sum(counts) == len(counts))
                        asked += 1
        self.assertGreater(asked, 500)

    def test_values_that_are_not_below_their_size(self):
        for logs in FAMILIES[::2]:
            cells = all_cells(logs)
            for values in list(product((1, 2, 3), repeat=len(cells)))[::4]:
                sizes = tuple(zip(cells, values))
                counts = [len(covering(logs, assignment)) for assignment in assignments_of(sizes)]
                self.check(logs, sizes, sum(counts), sum(counts) == len(counts))

    def test_no_logs(self):
        for sizes in ((), (("a", 1),), (("a", 10 ** 9), ("b", 10 ** 9))):
            self.check((), sizes, 0, False)

    def test_the_empty_log(self):
        self.check(((),), (), 1, True)
        self.check(((),), (("a", 1),), 1, True)
        self.check(((),), (("a", 7), ("b", 10 ** 9)), 7 * 10 ** 9, True)

    def test_sizes_of_one(self):
        self.check(((("a", 0),),), (("a", 1),), 1, True)
        self.check(((("a", 1),),), (("a", 1),), 0, False)
        self.check(((("a", 0), ("b", 0)),), (("a", 1), ("b", 1)), 1, True)

    def test_great_sizes(self):
        self.check(LOGS, (("a", 10 ** 9), ("b", 10 ** 9), ("c", 10 ** 9)), 10 ** 9 + 1 + 10 ** 9, False)
        sizes = tuple((name(at), 10 ** 9) for at in range(400))
        self.check((log_of(60),), sizes, 10 ** (9 * 340), False)
        self.check(flat_logs(300, 60), sizes, 300 * 10 ** (9 * 340), False)
        self.check(((),), sizes, 10 ** (9 * 400), True)
        self.check(((("aa", 10 ** 9 - 1),),), sizes, 10 ** (9 * 399), False)
        self.check(((("aa", 10 ** 9),),), sizes, 0, False)

    def test_numbers_that_python_does_not_print(self):
        sizes = tuple((name(at), 10 ** 9) for at in range(676))
        self.assertTrue(covered((log_of(60),), sizes) == 10 ** (9 * 616))
        self.assertIs(is_complete((log_of(60),), sizes), False)
        self.assertIs(is_complete(((),), sizes), True)

    def test_many_logs_that_cover_all(self):
        self.check(many_logs(300), (("a", 300),), 300, True)
        self.check(many_logs(300), (("a", 301),), 300, False)
        self.check(many_logs(300), (("a", 299), ("b", 5)), 299 * 5, True)
        sizes = tuple((cell, 6) for cell in all_cells(LONGEST_CHAIN))
        self.check(LONGEST_CHAIN, sizes, 6 ** 60 - 1, False)
        zeros = tuple((cell, 0) for cell in all_cells(LONGEST_CHAIN))
        self.check(tuple(sorted(LONGEST_CHAIN + (zeros,))), sizes, 6 ** 60, True)
        self.check(WIDEST, tuple((cell, 300) for cell in all_cells(WIDEST)), 300, False)

    def test_nothing_can_be_added_to_complete_logs(self):
        asked = 0
        for logs in FAMILIES:
            sizes = sizes_of(logs, ("q",), 2)
            if is_complete(logs, sizes):
                for values in product(*[(None, *range(size)) for _, size in sizes]):
                    log = tuple((cell, value) for (cell, _), value in zip(sizes, values) if value is not None)
                    self.assertIs(can_add(logs, log), log in logs)
                    asked += 1
        self.assertGreater(asked, 250)

    def test_a_log_that_covers_what_is_missing(self):
        asked = 0
        for logs in FAMILIES:
            sizes = sizes_of(logs, (), 2)
            for assignment in list(assignments_of(sizes))[:30]:
                log = tuple(sorted(assignment.items()))
                if not covering(logs, assignment) and can_add(logs, log):
                    more = tuple(sorted(logs + (log,)))
                    self.assertEqual(covered(more, sizes), covered(logs, sizes) + 1)
                    asked += 1
        self.assertGreater(asked, 300)


class BadSizesTest(unittest.TestCase):
    def refuse(self, error_class, logs, sizes):
        errors = [refused(self, error_class, function, logs=logs, sizes=sizes) for function in (covered, is_complete)]
        self.assertTrue(same(vars(errors[0]), vars(errors[1])))
        return errors[0]

    def check(self, logs, thing):
        """BadSizes for what is no sizes; whether it is none."""
        if plainly_sizes(logs, thing):
            counted = call(self, covered, logs=logs, sizes=thing)
            self.assertIs(call(self, is_complete, logs=logs, sizes=thing) and counted == 0, False)
            return False
        self.assertEqual(repr(vars(self.refuse(BadSizes, logs, thing))), repr({"sizes": thing}))
        return True

    def test_changed_sizes(self):
        asked = 0
        for logs in (LOGS, PAIR, TWO, ((),), ()):
            for sizes in ((("a", 1), ("b", 2), ("c", 10 ** 9)), (("a", 3), ("b", 3))):
                for thing in changed(sizes):
                    with self.subTest(logs=logs, thing=thing):
                        asked += self.check(logs, thing)
        self.assertGreater(asked, 1000)

    def test_edges(self):
        for thing, wrong in (
            ((("a", 1), ("b", 1)), False), ((("a", 0), ("b", 1)), True), ((("a", 10 ** 9), ("b", 1)), False),
            ((("a", 10 ** 9 + 1), ("b", 1)), True), ((("a", -1), ("b", 1)), True), ((("a", True), ("b", 1)), True),
            ((("b", 1), ("a", 1)), True), ((("a", 1), ("a", 2), ("b", 1)), True),
            ((("a", 1), ("a", 1), ("b", 1)), True),
            ((("a", 1),), True), ((), True), ((("a", 1), ("b", 1), ("abcdefghi", 1)), True),
            ((("A", 1), ("a", 1)), True),
            ((("a", 1), ("abcdefgh", 1), ("b", 1)), False), ([("a", 1), ("b", 1)], True), ((["a", 1], ("b", 1)), True),
            ({"a": 1, "b": 1}, True), (None, True), ("ab", True), (((("a", 1), ("b", 1)),), True), (2, True),
            ((("a", 1, 1), ("b", 1)), True), ((("a",), ("b", 1)), True), ((("a", "1"), ("b", 1)), True),
            ((("a", (1,)), ("b", 1)), True), (((("a",), 1), ("b", 1)), True),
        ):
            with self.subTest(thing=thing):
                self.assertIs(self.check(TWO, thing), wrong)

    def test_each_cell_of_the_logs_is_needed(self):
        for logs in FAMILIES[::4]:
            sizes = sizes_of(logs, ("q",))
            for at, (cell, _) in enumerate(sizes):
                self.assertIs(self.check(logs, sizes[:at] + sizes[at + 1:]), cell != "q")

    def test_any_object(self):
        for logs in (TWO, ((),), ()):
            for thing in THINGS:
                with self.subTest(logs=logs, thing=thing):
                    self.check(logs, thing)
            for thing in DEEP_THINGS:
                for sizes in (thing, (thing,), (("a", thing), ("b", 1)), (("a", 1), ("b", 1), thing), ((thing, 1),)):
                    for function in (covered, is_complete):
                        with self.assertRaises(BadSizes) as caught:
                            function(logs, sizes)
                        self.assertIs(caught.exception.sizes, sizes)

    def test_stuck_first(self):
        for logs in (CYCLE, ((), (("a", 0),)), lacking_one(5)):
            for sizes in ((), None, sizes_of(logs), (("a", 0),), {}):
                error = self.refuse(Stuck, logs, sizes)
                self.assertIs(is_minimal_stuck(logs, error.group), True)


if __name__ == "__main__":
    unittest.main()
