"""The whole program: all modules asked about the same logs, the answers held against each other."""

import unittest
from itertools import permutations, product
from random import Random

from readorder.adding import against, can_add
from readorder.avoiding import avoiding, evidence_certain, shows_avoided, shows_certain
from readorder.certain import certain_reads, hit, is_snapshot, possible_reads
from readorder.counting import count_readers, covered, is_complete
from readorder.desk import Desk
from readorder.evidence import evidence_of, order_against, orders_fit, reader_with, shows_precedence
from readorder.groups import blocks, has_reader, is_minimal_stuck, is_stuck, reader_for, splitting_cells, stuck_group
from readorder.joining import inline_source, inlined, join_source, joined
from readorder.logs import agreeing, cells_in, differing, is_log, is_logs, shared_cells, value_in
from readorder.orders import closure, count_orders, is_order, next_cells, precedence, rounds
from readorder.readers import follow, is_reader, is_reader_of, logs_of
from readorder.recorder import Recorder
from readorder.swaps import after_swaps, can_swap, node_at, shows_swaps, swapped, swaps_between
from readorder.texts import parse_log, parse_logs, parse_reader, show_log, show_logs, show_reader
from tests.brute import log_orders, random_reader

CELLS = ("a", "b", "c", "d", "e")
# Neither ascending where the others are, nor of one length.
OTHER_NAMES = {"a": "zz", "b": "m", "c": "abcdefgh", "d": "q", "e": "b", "x": "y"}


def drawn_programs(many, seed):
    """So many readers of two to ten logs."""
    random = Random(seed)
    found = []
    while len(found) < many:
        reader = random_reader(random, CELLS, 5, 3)
        if 2 <= len(log_orders(reader)) <= 10 and reader not in found:
            found.append(reader)
    return found


def renamed_log(log):
    return tuple(sorted((OTHER_NAMES[cell], value) for cell, value in log))


def renamed_logs(logs):
    return tuple(sorted(renamed_log(log) for log in logs))


def renamed_cells(cells):
    return tuple(sorted(OTHER_NAMES[cell] for cell in cells))


def renamed_reader(reader):
    if reader == ():
        return ()
    return (OTHER_NAMES[reader[0]], tuple((value, renamed_reader(below)) for value, below in reader[1]))


def snapshots_of(logs, random, many=12):
    """So many snapshots, with values that the logs have and with others."""
    cells = cells_in(logs)
    return [tuple((cell, random.randrange(4)) for cell in cells) for _ in range(many)]


class WholeTest(unittest.TestCase):
    def setUp(self):
        self.random = Random(101)

    def each(self, many=40, seed=102):
        """A (logs, reader) pair for each drawn program, and the same with all cells named otherwise."""
        for reader in drawn_programs(many, seed):
            for program in (reader, renamed_reader(reader)):
                logs = logs_of(program)
                with self.subTest(logs=logs):
                    yield logs, program

    def readers_of(self, logs):
        """Some readers of the logs."""
        cells = cells_in(logs)
        prefers = [(), cells[::-1], cells[1:], cells[2:] + cells[:2]]
        return [reader_for(logs, prefer=prefer) for prefer in prefers]

    def test_logs_and_readers(self):
        for logs, program in self.each():
            self.assertIs(is_logs(logs), True)
            self.assertIs(is_reader_of(logs, program), True)
            self.assertIs(has_reader(logs), True)
            self.assertIs(is_stuck(logs), False)
            self.assertIsNone(stuck_group(logs))
            self.assertEqual(blocks(logs), tuple((log,) for log in logs))
            self.assertLessEqual(set(splitting_cells(logs)), set(shared_cells(logs)))
            for reader in self.readers_of(logs):
                self.assertIs(is_reader(reader), True)
                self.assertEqual(logs_of(reader), logs)
                for log in logs:
                    outcome, cells, cell = follow(reader, log)
                    self.assertEqual((outcome, cell), ("done", None))
                    self.assertIs(is_order(logs, log, cells), True)
            for cell in shared_cells(logs):
                self.assertEqual(reader_for(logs, prefer=(cell,))[0], cell)

    def test_two_logs_of_one_reader(self):
        for logs, _ in self.each():
            for one, other in product(logs, repeat=2):
                self.assertIs(differing(one, other) == (), one == other)
            for log in logs:
                self.assertEqual(agreeing(logs, log), (log,))

    def test_orders(self):
        for logs, program in self.each():
            for log in logs:
                cells = tuple(cell for cell, _ in log)
                orders = [order for order in permutations(cells) if is_order(logs, log, order)]
                self.assertEqual(count_orders(logs, log), len(orders))
                self.assertIn(dict(log_orders(program))[log], orders)
                self.assertEqual(next_cells(logs, log, ()), tuple(sorted({order[0] for order in orders if order})))
                flat = [cell for cells in rounds(logs, log) for cell in cells]
                self.assertEqual(sorted(flat), sorted(cells))
                self.assertIn(tuple(flat), orders)
                pairs = precedence(logs, log)
                for first, later in permutations(cells, 2):
                    arguments = (logs, log, first, later)
                    self.assertIs((first, later) in pairs, all(row.index(first) < row.index(later) for row in orders))
                    self.assertIs(order_against(*arguments) is None, (first, later) in pairs)
                    self.assertIs(shows_precedence(*arguments, evidence_of(*arguments)), (first, later) in pairs)
                    self.assertIs(later in closure(logs, log, (first,)), (first, later) not in pairs)

    def test_orders_of_one_reader(self):
        for logs, program in self.each():
            for reader in self.readers_of(logs) + [program]:
                orders = tuple(dict(log_orders(reader))[log] for log in logs)
                self.assertIs(orders_fit(logs, orders), True)
                self.assertEqual(reader_with(logs, orders), reader)

    def test_snapshots(self):
        for logs, program in self.each():
            for snapshot in snapshots_of(logs, self.random):
                self.assertIs(is_snapshot(logs, snapshot), True)
                certain, possible = certain_reads(logs, snapshot), possible_reads(logs, snapshot)
                agreeing_log = hit(logs, snapshot)
                for reader in self.readers_of(logs) + [program]:
                    outcome, path, _ = follow(reader, snapshot)
                    self.assertLessEqual(set(certain), set(path))
                    self.assertLessEqual(set(path), set(possible))
                    self.assertIs(outcome == "done", agreeing_log is not None)
                    for cell in set(cells_in(logs)) - set(path):
                        self.assertIs(shows_avoided(logs, snapshot, cell, (outcome, path)), True)
                for cell in cells_in(logs):
                    arguments = (logs, snapshot, cell)
                    self.assertIs(avoiding(*arguments) is None, cell in certain)
                    self.assertIs(shows_avoided(*arguments, avoiding(*arguments)), cell not in certain)
                    self.assertIs(shows_certain(*arguments, evidence_certain(*arguments)), cell in certain)
                if agreeing_log is not None:
                    self.assertEqual(certain, tuple(cell for cell, _ in agreeing_log))
                    self.assertEqual(possible, certain)

    def test_a_path_of_a_program_with_more_logs(self):
        for logs, program in self.each():
            for at in range(len(logs)):
                fewer = logs[:at] + logs[at + 1:]
                for snapshot in snapshots_of(logs, self.random, 4):
                    path = follow(program, snapshot)[1]
                    self.assertLessEqual(set(certain_reads(fewer, snapshot)), set(path))

    def test_swaps(self):
        for logs, program in self.each():
            readers = self.readers_of(logs) + [program]
            for one, other in product(readers, repeat=2):
                swaps = swaps_between(one, other)
                self.assertEqual(after_swaps(one, swaps), other)
                self.assertIs(shows_swaps(one, other, swaps), True)
                part = one
                for place in swaps:
                    self.assertIs(can_swap(part, place), True)
                    self.assertNotEqual(node_at(part, place), ())
                    part = swapped(part, place)
                    self.assertIs(is_reader_of(logs, part), True)
                self.assertEqual(part, other)

    def test_all_readers_by_swaps(self):
        for logs, program in self.each(25):
            if count_readers(logs) <= 150:
                found, waiting = {program}, [program]
                while waiting:
                    part = waiting.pop()
                    for place in {path[:at] for path in self.places(part) for at in range(len(path) + 1)}:
                        if can_swap(part, place) and swapped(part, place) not in found:
                            found.add(swapped(part, place))
                            waiting.append(swapped(part, place))
                self.assertEqual(len(found), count_readers(logs))
                for log in logs:
                    orders = {dict(log_orders(reader))[log] for reader in found}
                    self.assertEqual(len(orders), count_orders(logs, log))

    def places(self, reader):
        """The places of all leaves of a reader."""
        if reader == ():
            return [()]
        return [(value,) + place for value, below in reader[1] for place in self.places(below)]

    def test_adding_and_covering(self):
        for logs, _ in self.each():
            cells = cells_in(logs)
            sizes = tuple((cell, 3) for cell in cells)
            missing = []
            for values in product(range(3), repeat=len(cells)):
                snapshot = tuple(zip(cells, values))
                if hit(logs, snapshot) is None:
                    missing.append(snapshot)
            self.assertEqual(covered(logs, sizes), 3 ** len(cells) - len(missing))
            self.assertIs(is_complete(logs, sizes), not missing)
            for snapshot in missing[::7]:
                self.assertIs(can_add(logs, snapshot), against(logs, snapshot) is None)
                if can_add(logs, snapshot):
                    more = tuple(sorted(logs + (snapshot,)))
                    self.assertEqual(covered(more, sizes), covered(logs, sizes) + 1)
                else:
                    more = tuple(sorted(logs + (snapshot,)))
                    self.assertIs(is_minimal_stuck(more, against(logs, snapshot)), True)
            for log in logs:
                self.assertIs(can_add(logs, log), True)
                self.assertIs(can_add(logs, log + (("zzz", 0),)), False)

    def test_joining_and_inlining(self):
        programs = drawn_programs(40, 103)
        for one, other in zip(programs, programs[1:]):
            logs, others = logs_of(one), logs_of(other)
            both = joined(logs, others)
            self.assertIs(has_reader(both), both != ())
            for log in both:
                first, second = join_source(logs, others, log)
                self.assertEqual(tuple(sorted(set(first + second))), log)
            self.assertEqual(joined(renamed_logs(logs), renamed_logs(others)), renamed_logs(both))
            results = tuple((tuple((f"x{cell}", value) for cell, value in log), at % 3) for at,
                log in enumerate(others))
            whole = inlined(logs, "a", results)
            self.assertIs(has_reader(whole), whole != ())
            for log in whole:
                outer, result = inline_source(logs, "a", results, log)
                self.assertIs(result is None, value_in(outer, "a") is None)
                self.assertLessEqual({pair for pair in outer if pair[0] != "a"}, set(log))

    def test_texts(self):
        for logs, program in self.each():
            self.assertEqual(parse_logs(show_logs(logs)), logs)
            self.assertEqual([parse_log(line) for line in show_logs(logs).split("\n")], list(logs))
            for reader in self.readers_of(logs) + [program]:
                self.assertEqual(parse_reader(show_reader(reader)), reader)

    def test_a_recorder_and_a_desk(self):
        for logs, _ in self.each():
            book, desk = Recorder(), Desk()
            row = list(logs)
            self.random.shuffle(row)
            for log in row:
                self.assertIs(is_log(log), True)
                self.assertIs(book.add(log), True)
                self.assertEqual(desk.say("add " + show_log(log)), "new")
            self.assertIs(book == Recorder(logs), True)
            self.assertEqual(book.logs(), logs)
            self.assertEqual(desk.say("logs").replace("; ", "\n"), show_logs(logs))
            for prefer in ((), cells_in(logs)[::-1]):
                self.assertEqual(book.reader(prefer=prefer), reader_for(logs, prefer=prefer))
                line = " ".join(("reader",) + prefer)
                self.assertEqual(parse_reader(desk.say(line)), reader_for(logs, prefer=prefer))
            self.assertEqual(desk.say("readers"), str(count_readers(logs)))
            for log in logs:
                self.assertEqual(desk.say("orders " + show_log(log)), str(count_orders(logs, log)))
            for snapshot in snapshots_of(logs, self.random, 3):
                self.assertEqual(desk.say("certain " + show_log(snapshot)),
                    " ".join(certain_reads(logs, snapshot)) or "-")
            sizes = tuple((cell, 3) for cell in cells_in(logs))
            line = "covered " + " ".join(f"{cell}:{size}" for cell, size in sizes)
            self.assertEqual(desk.say(line), str(covered(logs, sizes)))

    def test_all_cells_named_otherwise(self):
        for program in drawn_programs(40, 102):
            logs = logs_of(program)
            others = renamed_logs(logs)
            self.assertEqual(logs_of(renamed_reader(program)), others)
            self.assertEqual(cells_in(others), renamed_cells(cells_in(logs)))
            self.assertEqual(shared_cells(others), renamed_cells(shared_cells(logs)))
            self.assertEqual(splitting_cells(others), renamed_cells(splitting_cells(logs)))
            self.assertEqual(count_readers(others), count_readers(logs))
            sizes = tuple((cell, 2 + at % 2) for at, cell in enumerate(cells_in(logs)))
            self.assertEqual(covered(others, renamed_log(sizes)), covered(logs, sizes))
            self.assertEqual(is_complete(others, renamed_log(sizes)), is_complete(logs, sizes))
            for log in logs:
                other = renamed_log(log)
                self.assertEqual(count_orders(others, other), count_orders(logs, log))
                pairs = [(OTHER_NAMES[first], OTHER_NAMES[later]) for first, later in precedence(logs, log)]
                self.assertEqual(precedence(others, other), tuple(sorted(pairs)))
                self.assertEqual(rounds(others, other), tuple(renamed_cells(cells) for cells in rounds(logs, log)))
            for snapshot in snapshots_of(logs, self.random):
                other = renamed_log(snapshot)
                self.assertEqual(certain_reads(others, other), renamed_cells(certain_reads(logs, snapshot)))
                self.assertEqual(possible_reads(others, other), renamed_cells(possible_reads(logs, snapshot)))
                self.assertEqual(can_add(others, other), can_add(logs, snapshot))
                found = hit(logs, snapshot)
                self.assertEqual(hit(others, other), None if found is None else renamed_log(found))


if __name__ == "__main__":
    unittest.main()
