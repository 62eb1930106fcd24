"""Point [13]: whether logs still have a reader together with one more."""

import unittest
from itertools import product

from readorder.adding import against, can_add
from readorder.errors import Stuck
from readorder.groups import is_minimal_stuck, is_stuck
from tests.brute import (
    all_cells, cells_read, minimal_stuck_groups, random_families, readable, readable_families, small_families,
)
from tests.support import (
    CYCLE, LOGS, LONGEST_CHAIN, PAIR, TWO, WIDEST, call, chain_logs, flat_logs, lacking_one, log_of, many_logs, name,
    refused,
)

FAMILIES = (
    (LOGS, PAIR, TWO, ((),), (log_of(4),), chain_logs(3, 2), flat_logs(3, 3))
    + tuple(readable_families(60, most=5, seed=31)) + tuple(readable_families(40, "abc", 3, 3, 6, seed=32))
)


def together(logs, log):
    """The logs and the log, ascending, without duplicates."""
    return tuple(sorted(set(logs) | {log}))


def changed_logs(log):
    """The log with one value changed, with one cell more, with one cell less."""
    for at, (cell, value) in enumerate(log):
        yield log[:at] + log[at + 1:]
        for other in (value + 1, abs(value - 1), 9):
            yield log[:at] + ((cell, other),) + log[at + 1:]
    for cell, value in product("abcdz", (0, 1)):
        if cell not in cells_read(log):
            yield tuple(sorted(log + ((cell, value),)))


class AddingTest(unittest.TestCase):
    def check(self, logs, log, wanted):
        """The answers of both functions."""
        self.assertIs(call(self, can_add, logs=logs, log=log), wanted)
        group = call(self, against, logs=logs, log=log)
        if wanted:
            self.assertIsNone(group)
        else:
            self.assertIs(is_minimal_stuck(together(logs, log), group), True)
            self.assertIn(log, group)

    def check_small(self, logs, log):
        """The same against the definitions written out; whether the log can be added."""
        whole = together(logs, log)
        wanted = readable(whole)
        self.check(logs, log, wanted)
        if not wanted:
            self.assertIn(against(logs, log), minimal_stuck_groups(whole))
        return wanted

    def test_changed_logs(self):
        counts = {False: 0, True: 0}
        for logs in FAMILIES:
            some = {changed for log in logs[:4] for changed in changed_logs(log)}
            for log in sorted(some)[::1 + len(some) // 15]:
                with self.subTest(logs=logs, log=log):
                    counts[self.check_small(logs, log)] += 1
        self.assertGreater(min(counts.values()), 200)

    def test_logs_of_other_programs(self):
        for logs, others in zip(FAMILIES, FAMILIES[1:]):
            for log in others[:4]:
                with self.subTest(logs=logs, log=log):
                    self.check_small(logs, log)

    def test_all_small_logs(self):
        every = sorted({log for logs in small_families() for log in logs})
        for logs in small_families():
            if logs and readable(logs):
                for log in every:
                    self.check_small(logs, log)

    def test_one_of_the_logs(self):
        for logs in FAMILIES:
            for log in logs:
                self.check(logs, log, True)

    def test_one_left_out_and_added_again(self):
        for logs in FAMILIES:
            for at, log in enumerate(logs):
                self.check(logs[:at] + logs[at + 1:], log, True)

    def test_no_logs(self):
        for log in ((), LOGS[0], log_of(60), (("a", 10 ** 9),)):
            self.check((), log, True)

    def test_the_empty_log(self):
        self.check(((),), (), True)
        self.check(((),), (("a", 0),), False)
        for logs in FAMILIES:
            self.check(logs, (), logs == ((),))

    def test_a_group_of_the_least_logs(self):
        self.assertEqual(against(LOGS, (("a", 0), ("c", 1))), (LOGS[0], (("a", 0), ("c", 1))))
        logs = lacking_one(12)
        for at, log in enumerate(logs):
            rest = logs[:at] + logs[at + 1:]
            if readable(rest):
                self.check(rest, log, False)
                self.assertEqual(against(rest, log), logs)


class StuckTest(unittest.TestCase):
    def test_logs_without_a_reader(self):
        for logs in (CYCLE, ((), (("a", 0),)), lacking_one(5)):
            for log in (logs[0], (), (("q", 1),)):
                for function in (can_add, against):
                    error = refused(self, Stuck, function, logs=logs, log=log)
                    self.assertEqual(list(vars(error)), ["group"])
                    self.assertIs(is_minimal_stuck(logs, error.group), True)

    def test_all_random_logs(self):
        stuck = 0
        for logs in random_families(150, seed=33):
            if logs and not readable(logs):
                error = refused(self, Stuck, can_add, logs=logs, log=())
                self.assertIn(error.group, minimal_stuck_groups(logs))
                stuck += 1
        self.assertGreater(stuck, 50)


class ManyLogsTest(unittest.TestCase):
    def check(self, logs, log, wanted):
        self.assertIs(call(self, can_add, logs=logs, log=log), wanted)
        group = call(self, against, logs=logs, log=log)
        if wanted:
            self.assertIsNone(group)
        else:
            self.assertIs(is_stuck(group), True)
            self.assertIs(is_minimal_stuck(together(logs, log), group), True)

    def test_one_more_than_three_hundred(self):
        for logs in (many_logs(300), LONGEST_CHAIN, WIDEST):
            self.assertEqual(len(logs), 300)
            for log in (logs[0], logs[150], logs[299]):
                self.check(logs, log, True)
            self.check(logs, (), False)
        self.check(many_logs(300), (("a", 300),), True)
        self.check(many_logs(300), (("b", 0),), False)
        self.check(many_logs(300), (("a", 7), ("b", 0)), False)
        self.check(many_logs(300), (("a", 10 ** 9), ("b", 0)), True)

    def test_a_chain_of_sixty_cells(self):
        zeros = tuple((cell, 0) for cell in all_cells(LONGEST_CHAIN))
        self.check(LONGEST_CHAIN, zeros, True)
        self.check(LONGEST_CHAIN, zeros[:-1], False)
        self.check(LONGEST_CHAIN, zeros[:-1] + ((zeros[-1][0], 6),), True)
        self.check(LONGEST_CHAIN, zeros[:30] + ((zeros[30][0], 9),), True)
        self.check(LONGEST_CHAIN, zeros[:30] + ((zeros[30][0], 1), ("zz", 0)), False)
        self.check(LONGEST_CHAIN, zeros[1:], False)

    def test_sixty_cells_at_once(self):
        cells = all_cells(WIDEST)
        self.check(WIDEST, tuple((cell, 300) for cell in cells), True)
        self.check(WIDEST, tuple((cell, at) for at, cell in enumerate(cells)), True)
        self.check(WIDEST, ((cells[0], 300),), True)
        self.check(WIDEST, ((cells[0], 299),), False)
        self.check(WIDEST, (("zz", 0),), False)

    def test_a_cycle_of_many_logs(self):
        # Each log has all cells but one, and without the last log there is a shared cell.
        logs = lacking_one(61)
        shared_cell = name(0)
        rest = tuple(log for log in logs if shared_cell in cells_read(log))
        tagged = tuple(tuple((cell, value + at if cell == shared_cell else value) for cell, value in log)
                       for at, log in enumerate(rest))
        missing = tuple(log for log in logs if shared_cell not in cells_read(log))[0]
        self.check(tagged, missing, False)


if __name__ == "__main__":
    unittest.main()
