"""Point [19], and [3] (h): the recorder."""

import unittest
from copy import deepcopy
from random import Random

from readorder.errors import BadLog, BadLogs, Full, NotALog, NothingToUndo, ReadError, Stuck
from readorder.groups import is_minimal_stuck, reader_for
from readorder.logs import is_log, is_logs
from readorder.recorder import Recorder
from tests.brute import readable, readable_families, small_families
from tests.support import (
    CYCLE, DEEP_THINGS, LOGS, LONGEST_CHAIN, PAIR, THINGS, TWO, WIDEST, changed, lacking_one, log_of, many_logs,
    refused, same,
)

EVERY_SMALL = tuple(sorted({log for logs in small_families() for log in logs}))
BAD_LOGS = (None, 0, True, "a=0", [], {}, (None,), ("a", 0), [("a", 0)], (("a", True),), (("b", 0), ("a", 0)),
            (("a", 0), ("a", 1)), (("a", -1),), (("a", 10 ** 9 + 1),), (("A", 0),), log_of(61), LOGS)
PREFERS = ((), ("b",), ("c", "a"), ("d", "c", "b", "a"), ("q", "b"), ("b", "b"))


class Broken(Exception):
    """What an action of a trial raises in these tests."""


class States:
    """A recorder as the document describes it: the list of all states that it has had."""

    def __init__(self, logs=()):
        self.states = [tuple(logs)]

    def now(self):
        return self.states[-1]

    def add(self, log):
        """The result of add, or the class of its error."""
        wanted = self.wanted(self.now(), log)
        if not isinstance(wanted, type):
            self.states.append(tuple(sorted({*self.now(), log})))
        return wanted

    @staticmethod
    def wanted(logs, log):
        """Whether the log is new among the logs, or the class of the error."""
        if not is_log(log):
            return BadLog
        if log in logs:
            return False
        if len(logs) == 300:
            return Full
        return True if readable(tuple(sorted({*logs, log}))) else Stuck

    def add_all(self, logs, keep):
        """The result of add_all, or the class of its error."""
        held, new = self.now(), 0
        for at, log in enumerate(logs):
            wanted = self.wanted(held, log)
            if isinstance(wanted, type):
                if keep and at:
                    self.states.append(held)
                return wanted
            held = tuple(sorted({*held, log}))
            new += wanted
        self.states.append(held)
        return new

    def drop(self, log):
        """The result of drop, or the class of its error."""
        if not any(same(log, held) for held in self.now()):
            return NotALog
        self.states.append(tuple(held for held in self.now() if held != log))
        return None

    def undo(self):
        """The result of undo, or the class of its error."""
        if len(self.states) == 1:
            return NothingToUndo
        self.states.pop()
        return None


def outcome(function, *arguments, **named):
    """The result of a call, or the class of its error."""
    try:
        return function(*arguments, **named)
    except ReadError as error:
        return type(error)


class RecorderTest(unittest.TestCase):
    def same_as(self, book, states):
        """The recorder is as the states tell."""
        logs = states.now()
        self.assertEqual(book.logs(), logs)
        self.assertEqual(len(book), len(logs))
        self.assertEqual(book.actions(), len(states.states) - 1)
        self.assertIs(book == Recorder(logs), True)
        self.assertIs(book != Recorder(logs), False)
        for prefer in PREFERS:
            self.assertEqual(book.reader(prefer=prefer), reader_for(logs, prefer=prefer) if logs else None)
        self.assertEqual(book.reader(), book.reader(prefer=()))


class HistoryTest(RecorderTest):
    def drawn_log(self, random, logs):
        """A log that can be added, one that is there, one that is against the others, or no log."""
        kind = random.randrange(10)
        if kind == 0:
            return random.choice(BAD_LOGS)
        if kind == 1 and logs:
            return random.choice(logs)
        if kind < 4:
            return tuple((cell, random.randrange(2)) for cell in "abcd" if random.random() < 0.6)
        return random.choice(self.family)

    def step(self, random, book, states, depth=0):
        """One drawn call, of the recorder and of the states."""
        kind, logs = random.randrange(13), states.now()
        if kind < 4:
            log = self.drawn_log(random, logs)
            self.assertIs(outcome(book.add, log), states.add(log))
        elif kind < 7:
            row = tuple(self.drawn_log(random, logs) for _ in range(random.randrange(5)))
            keep = random.random() < 0.5
            self.assertIs(outcome(book.add_all, row, keep=keep), states.add_all(row, keep))
        elif kind < 9:
            log = random.choice(logs) if logs and random.random() < 0.8 else self.drawn_log(random, logs)
            self.assertIs(outcome(book.drop, log), states.drop(log))
        elif kind < 11:
            self.assertIs(outcome(book.undo), states.undo())
        elif kind == 11 and depth < 3:
            self.trial(random, book, states, depth)
        else:
            self.apart(random, book, states, depth)

    def trial(self, random, book, states, depth):
        """A trial of some drawn calls, which may raise at the end."""
        inner = States()
        inner.states = list(states.states)
        fails = random.random() < 0.4

        def action(given):
            self.assertIs(given, book)
            for _ in range(random.randrange(5)):
                self.step(random, given, inner, depth + 1)
            self.same_as(given, inner)
            if fails:
                raise Broken(depth)
            return [depth, "result"]

        if fails:
            with self.assertRaises(Broken) as caught:
                book.trial(action)
            self.assertEqual(caught.exception.args, (depth,))
        else:
            self.assertEqual(book.trial(action), [depth, "result"])
        self.same_as(book, states)

    def apart(self, random, book, states, depth):
        """A clone that goes its own way."""
        other, others = book.clone(), States()
        others.states = list(states.states)
        self.same_as(other, others)
        for _ in range(random.randrange(4) if depth < 3 else 0):
            self.step(random, other, others, depth + 1)
        self.same_as(other, others)
        self.same_as(book, states)

    def test_drawn_calls(self):
        for seed in range(60):
            random = Random(700 + seed)
            self.family = random.choice(readable_families(20, most=8, seed=71))
            logs = self.family[:random.randrange(3)]
            book, states = Recorder(logs), States(logs)
            for _ in range(40):
                self.step(random, book, states)
                self.same_as(book, states)

    def test_all_is_taken_back(self):
        random = Random(72)
        for logs in readable_families(20, most=8, seed=73):
            self.family = logs
            book, states = Recorder(logs[:2]), States(logs[:2])
            for _ in range(15):
                self.step(random, book, states)
            while len(states.states) > 1:
                self.assertIsNone(book.undo())
                states.undo()
                self.same_as(book, states)
            # What the recorder began with is no action.
            self.assertEqual(outcome(book.undo), states.undo())


class NewRecorderTest(RecorderTest):
    def test_logs_of_readers(self):
        for logs in ((), ((),), LOGS, PAIR, TWO, many_logs(300)) + tuple(readable_families(20, seed=74)):
            self.same_as(Recorder(logs), States(logs))
            self.same_as(Recorder(logs=logs), States(logs))
        self.same_as(Recorder(), States())

    def test_bad_logs(self):
        for thing in BAD_LOGS[:-1] + (list(LOGS), LOGS[::-1], LOGS + LOGS[-1:], many_logs(301), (log_of(61),), (LOGS,)):
            if not is_logs(thing):
                error = refused(self, BadLogs, Recorder, logs=thing)
                self.assertEqual(repr(vars(error)), repr({"value": thing}))
        for thing in changed(TWO):
            if not is_logs(thing):
                self.assertEqual(repr(refused(self, BadLogs, Recorder, logs=thing).value), repr(thing))
            elif not thing or readable(thing):
                self.assertEqual(Recorder(thing).logs(), thing)
            else:
                self.assertIs(is_minimal_stuck(thing, refused(self, Stuck, Recorder, logs=thing).group), True)

    def test_bad_logs_of_any_object(self):
        for thing in THINGS:
            if not is_logs(thing):
                self.assertEqual(repr(refused(self, BadLogs, Recorder, logs=thing).value), repr(thing))
        for thing in DEEP_THINGS:
            for logs in (thing, (thing,), (((("a", thing),)),)):
                with self.assertRaises(BadLogs) as caught:
                    Recorder(logs)
                self.assertIs(caught.exception.value, logs)

    def test_stuck(self):
        for logs in (CYCLE, ((), (("a", 0),)), lacking_one(5)):
            self.assertIs(is_minimal_stuck(logs, refused(self, Stuck, Recorder, logs=logs).group), True)
        # More than 300 logs are bad logs, also if they have no reader.
        more = ((),) + many_logs(300)
        self.assertEqual(refused(self, BadLogs, Recorder, logs=more).value, more)


class AddTest(RecorderTest):
    def test_new_and_known(self):
        for logs in readable_families(20, most=6, seed=75):
            book, states = Recorder(), States()
            for log in logs + logs[::-1]:
                self.assertIs(book.add(log), states.add(log))
                self.same_as(book, states)
            self.assertEqual(book.actions(), 2 * len(logs))
            self.assertEqual(len(book), len(logs))

    def test_by_name(self):
        book = Recorder()
        log = (("a", 0),)
        self.assertIs(book.add(log=log), True)
        self.assertEqual(book.add_all(logs=(log, (("a", 1),)), keep=True), 1)
        self.assertIsNone(book.drop(log=log))
        self.assertEqual(book.trial(action=len), 1)
        with self.assertRaises(TypeError):
            book.add_all((), True)
        with self.assertRaises(TypeError):
            book.reader(("a",))

    def test_bad_log(self):
        book, states = Recorder(TWO), States(TWO)
        for thing in BAD_LOGS:
            with self.assertRaises(BadLog) as caught:
                book.add(thing)
            self.assertEqual(repr(vars(caught.exception)), repr({"log": thing}))
        self.same_as(book, states)

    def test_any_object(self):
        book = Recorder(TWO)
        for thing in THINGS + DEEP_THINGS:
            if not is_log(thing):
                with self.assertRaises(BadLog) as caught:
                    book.add(thing)
                self.assertIs(caught.exception.log, thing)
        self.same_as(book, States(TWO))

    def test_stuck(self):
        for logs in readable_families(30, most=5, seed=76):
            book = Recorder(logs)
            for log in ((), (("z", 0),), logs[0][1:], logs[0] + (("z", 0),)):
                whole = tuple(sorted({*logs, log}))
                if not readable(whole):
                    with self.assertRaises(Stuck) as caught:
                        book.add(log)
                    self.assertIs(is_minimal_stuck(whole, caught.exception.group), True)
            self.same_as(book, States(logs))

    def test_three_hundred_logs_and_one_more(self):
        logs = many_logs(299)
        book = Recorder(logs)
        self.assertIs(book.add((("a", 299),)), True)
        # Full stands ahead of Stuck, but behind BadLog, and not for a log that is there.
        for log in ((("a", 300),), (("b", 0),), (), log_of(60)):
            with self.assertRaises(Full) as caught:
                book.add(log)
            self.assertEqual(vars(caught.exception), {})
        for log in (log_of(61), None, (("a", True),)):
            with self.assertRaises(BadLog):
                book.add(log)
        for at in (0, 150, 299):
            self.assertIs(book.add((("a", at),)), False)
        self.assertEqual((len(book), book.actions()), (300, 4))
        self.assertIsNone(book.drop((("a", 7),)))
        with self.assertRaises(Stuck):
            book.add((("b", 0),))
        self.assertIs(book.add((("a", 300),)), True)
        with self.assertRaises(Full):
            book.add((("a", 7),))

    def test_large_logs(self):
        for logs in (WIDEST, LONGEST_CHAIN):
            book = Recorder()
            self.assertEqual(book.add_all(logs[::-1]), 300)
            self.assertEqual(book.logs(), logs)
            self.assertEqual(book.reader(), reader_for(logs))
            for log in logs[:250]:
                book.drop(log)
            self.assertEqual(book.reader(), reader_for(logs[250:]))
            for _ in range(251):
                book.undo()
            self.assertEqual((len(book), book.actions()), (0, 0))


class AddAllTest(RecorderTest):
    ROW = ((("a", 2),), (("a", 3), ("b", 0)), (("a", 0), ("b", 0)), (("a", 4),))

    def test_how_many_were_new(self):
        book, states = Recorder(TWO), States(TWO)
        for row, wanted in ((self.ROW, 3), (self.ROW, 0), ((), 0), (TWO * 2, 0), (((("a", 9),),) * 3, 1)):
            for keep in (False, True):
                given = deepcopy(row)
                self.assertEqual(book.add_all(given, keep=keep), wanted)
                self.assertEqual(states.add_all(row, keep), wanted)
                self.assertTrue(same(given, row))
                self.same_as(book, states)
                wanted = 0

    def test_no_logs_are_an_action(self):
        book = Recorder()
        self.assertEqual(book.add_all(()), 0)
        self.assertEqual(book.actions(), 1)
        self.assertIsNone(book.undo())
        self.assertEqual((book.actions(), book.logs()), (0, ()))

    def test_a_bad_entry_at_each_place(self):
        for bad, wanted in ((None, BadLog), (log_of(61), BadLog), ((("c", 5),), Stuck), ((), Stuck), (["a"], BadLog)):
            for at in range(len(self.ROW) + 1):
                row = self.ROW[:at] + (bad,) + self.ROW[at:]
                for keep in (False, True):
                    book, states = Recorder(TWO), States(TWO)
                    with self.assertRaises(wanted) as caught:
                        book.add_all(row, keep=keep)
                    self.assertIs(states.add_all(row, keep), wanted)
                    self.same_as(book, states)
                    self.assertEqual(book.actions(), int(keep and at > 0))
                    if wanted is BadLog:
                        self.assertIs(caught.exception.log, bad)
                    else:
                        held = tuple(sorted({*TWO, *self.ROW[:at], bad}))
                        self.assertIs(is_minimal_stuck(held, caught.exception.group), True)

    def test_without_keep_nothing_changes(self):
        book = Recorder(TWO)
        with self.assertRaises(BadLog):
            book.add_all(self.ROW + (None,))
        self.same_as(book, States(TWO))

    def test_known_logs_ahead_count(self):
        book = Recorder(TWO)
        with self.assertRaises(BadLog):
            book.add_all((TWO[0], None), keep=True)
        self.assertEqual((book.logs(), book.actions()), (TWO, 1))
        with self.assertRaises(BadLog):
            book.add_all((None, TWO[0]), keep=True)
        self.assertEqual(book.actions(), 1)

    def test_any_object(self):
        book = Recorder(TWO)
        for thing in THINGS + DEEP_THINGS:
            if not is_log(thing):
                with self.assertRaises(BadLog) as caught:
                    book.add_all((TWO[0], (("a", 7),), thing))
                self.assertIs(caught.exception.log, thing)
        self.same_as(book, States(TWO))

    def test_full(self):
        for keep, many in ((False, 298), (True, 300)):
            book = Recorder(many_logs(298))
            with self.assertRaises(Full):
                book.add_all(tuple((("a", at),) for at in range(297, 302)), keep=keep)
            self.assertEqual((len(book), book.actions()), (many, int(keep)))
        self.assertEqual(book.add_all(many_logs(300)), 0)


class DropTest(RecorderTest):
    def test_each_log(self):
        for logs in readable_families(20, most=6, seed=77):
            for log in logs:
                book, states = Recorder(logs), States(logs)
                self.assertIsNone(book.drop(log))
                states.drop(log)
                self.same_as(book, states)
                with self.assertRaises(NotALog) as caught:
                    book.drop(log)
                self.assertEqual(caught.exception.log, log)
                self.same_as(book, states)
                self.assertIs(book.add(log), True)
                self.assertEqual(book.logs(), logs)

    def test_the_last_log(self):
        for log in ((), log_of(60)):
            book = Recorder((log,))
            book.drop(log)
            self.assertEqual((book.logs(), book.reader(), len(book)), ((), None, 0))
            self.assertIs(book == Recorder(), True)

    def test_any_object(self):
        book = Recorder(TWO)
        others = THINGS + DEEP_THINGS + BAD_LOGS + ((), (("a", False), ("b", 0)), (("a", 0), ("b", False)),
            list(TWO[0]), TWO)
        for thing in others:
            with self.assertRaises(NotALog) as caught:
                book.drop(thing)
            self.assertIs(caught.exception.log, thing)
        self.same_as(book, States(TWO))


class UndoTest(RecorderTest):
    def test_each_kind_of_action(self):
        book = Recorder(TWO)
        calls = (
            lambda: book.add((("a", 2),)), lambda: book.add(TWO[0]), lambda: book.add_all(()),
            lambda: book.drop(TWO[1]),
            lambda: book.add_all(((("a", 5),), (("a", 6),))), lambda: book.add_all((TWO[0],), keep=True),
        )
        seen = []
        for call in calls:
            seen.append(book.logs())
            call()
            self.assertEqual(book.actions(), len(seen))
        while seen:
            self.assertIsNone(book.undo())
            self.assertEqual((book.logs(), book.actions()), (seen[-1], len(seen) - 1))
            seen.pop()

    def test_nothing_to_undo(self):
        for book in (Recorder(), Recorder(LOGS), Recorder(LOGS).clone()):
            logs = book.logs()
            for _ in range(2):
                with self.assertRaises(NothingToUndo) as caught:
                    book.undo()
                self.assertEqual(vars(caught.exception), {})
            self.same_as(book, States(logs))

    def test_what_was_undone_is_no_action(self):
        book = Recorder()
        for at in range(3):
            book.add((("a", at),))
            book.add((("a", at + 5),))
            book.undo()
        self.assertEqual((book.logs(), book.actions()), (many_logs(3), 3))


class TrialTest(RecorderTest):
    def setUp(self):
        self.book = Recorder(TWO)
        self.book.add((("a", 2),))
        self.book.drop(TWO[0])
        self.states = States(TWO)
        self.states.add((("a", 2),))
        self.states.drop(TWO[0])

    def tearDown(self):
        self.same_as(self.book, self.states)
        self.book.undo()
        self.states.undo()
        self.same_as(self.book, self.states)

    def test_what_it_returns(self):
        for result in (None, 0, False, [], LOGS):
            self.assertIs(self.book.trial(lambda book: result), result)
        self.assertIs(self.book.trial(lambda book: book), self.book)

    def test_actions_are_taken_back(self):
        self.assertEqual(self.book.trial(lambda book: book.add_all(((("a", 7),), (("a", 8),)))), 2)
        self.assertIsNone(self.book.trial(lambda book: book.drop((("a", 2),))))
        self.assertEqual(self.book.trial(lambda book: (book.add((("a", 9),)), book.logs()))[0], True)

    def test_more_is_undone_than_was_done(self):
        def action(book):
            while book.actions():
                book.undo()
            book.add((("a", 4),))
            return book.logs()

        self.assertEqual(self.book.trial(action), TWO + ((("a", 4),),))

    def test_one_undo_alone(self):
        self.assertIsNone(self.book.trial(lambda book: book.undo()))

    def test_errors_are_passed_on(self):
        error = Broken("as it is")

        def action(book):
            book.undo()
            book.add_all(((("a", 7),),))
            raise error

        with self.assertRaises(Broken) as caught:
            self.book.trial(action)
        self.assertIs(caught.exception, error)
        for call, wanted in (
            (lambda book: book.add(None), BadLog), (lambda book: book.add(()), Stuck),
            (lambda book: book.drop(()), NotALog),
            (lambda book: [book.undo() for _ in range(3)], NothingToUndo), (lambda book: 1 // 0, ZeroDivisionError),
            (lambda book: book.add_all(((("a", 7),), None), keep=True), BadLog), (lambda: None, TypeError),
        ):
            with self.assertRaises(wanted):
                self.book.trial(call)
            self.same_as(self.book, self.states)

    def test_interrupts(self):
        def action(book):
            book.undo()
            raise KeyboardInterrupt

        with self.assertRaises(KeyboardInterrupt):
            self.book.trial(action)

    def test_a_trial_in_a_trial(self):
        def inner(book):
            book.undo()
            book.undo()
            book.add((("a", 6),))
            return book.logs()

        def action(book):
            book.add((("a", 5),))
            before = book.logs(), book.actions()
            found = book.trial(inner)
            self.assertEqual((book.logs(), book.actions()), before)
            book.undo()
            return found

        self.assertEqual(self.book.trial(action), TWO + ((("a", 2),), (("a", 6),)))

    def test_a_clone_made_in_a_trial_stays(self):
        def action(book):
            book.add((("a", 5),))
            return book.clone()

        clone = self.book.trial(action)
        self.assertEqual((len(clone), clone.actions()), (3, 3))
        self.assertIs(clone == self.book, False)


class CloneTest(RecorderTest):
    def test_separate_ways(self):
        for logs in readable_families(10, most=6, seed=78):
            book, states = Recorder(logs[:1]), States(logs[:1])
            for log in logs:
                book.add(log)
                states.add(log)
            other, others = book.clone(), States()
            others.states = list(states.states)
            self.assertIsInstance(other, Recorder)
            self.assertIs(book == other, True)
            other.drop(logs[0])
            others.drop(logs[0])
            self.same_as(other, others)
            self.same_as(book, states)
            book.undo()
            states.undo()
            self.same_as(other, others)
            self.same_as(book, states)
            while others.undo() is None:
                other.undo()
                self.same_as(other, others)
            self.same_as(book, states)


class EqualTest(RecorderTest):
    def test_another_history(self):
        one = Recorder(LOGS)
        other = Recorder()
        other.add_all(LOGS[::-1])
        third = Recorder(LOGS[:1])
        third.add((("a", 7),))
        third.add_all(LOGS)
        third.drop((("a", 7),))
        for first in (one, other, third):
            for second in (one, other, third):
                self.assertIs(first == second, True)
                self.assertIs(first != second, False)
        third.undo()
        self.assertIs(one == third, False)
        self.assertIs(one != third, True)

    def test_other_objects(self):
        for book in (Recorder(), Recorder(LOGS), Recorder(((),))):
            for thing in (None, 0, True, (), [], {}, LOGS, book.logs(), list(book.logs()), len(book), "", object(),
                    Recorder):
                self.assertIs(book == thing, False)
                self.assertIs(book != thing, True)
                self.assertIs(thing == book, False)

    def test_other_logs(self):
        books = [Recorder(logs) for logs in small_families() if not logs or readable(logs)]
        for at, one in enumerate(books):
            for place, other in enumerate(books):
                self.assertIs(one == other, at == place)

    def test_all_orders_of_adding(self):
        random = Random(79)
        for logs in readable_families(20, most=8, seed=80):
            row = list(logs) * 2
            random.shuffle(row)
            book = Recorder()
            for log in row:
                book.add(log)
            self.assertIs(book == Recorder(logs), True)
            for prefer in PREFERS:
                self.assertEqual(book.reader(prefer=prefer), reader_for(logs, prefer=prefer))

    def test_what_can_be_added_to_small_logs(self):
        for logs in small_families():
            if not logs or readable(logs):
                for log in EVERY_SMALL:
                    book, states = Recorder(logs), States(logs)
                    self.assertIs(outcome(book.add, log), states.add(log))
                    self.assertEqual(book.logs(), states.now())


if __name__ == "__main__":
    unittest.main()
