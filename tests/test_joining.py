"""Points [17] and [18], and [3] (g): the logs of programs that run together."""

import unittest
from itertools import product
from random import Random

from readorder.errors import BadResults, NotALog, Stuck
from readorder.groups import has_reader, is_minimal_stuck, reader_for
from readorder.joining import inline_source, inlined, join_source, joined
from readorder.logs import cells_in
from readorder.readers import logs_of
from tests.brute import all_cells, minimal_stuck_groups, random_families, readable, readable_families, small_families
from tests.support import (
    CYCLE, DEEP_THINGS, LETTERS, LOGS, LONGEST_CHAIN, PAIR, THINGS, TWO, WIDEST, call, chain_logs, changed, flat_logs,
    lacking_one, log_of, many_logs, refused, same,
)

FAMILIES = (
    ((), ((),), LOGS, PAIR, TWO, (log_of(3),), chain_logs(2, 2))
    + tuple(readable_families(14, "abc", 3, 2, 6, seed=61)) + tuple(readable_families(14, "bcd", 3, 3, 6, seed=62))
    + tuple(readable_families(10, "xyz", 3, 2, 5, seed=63))
)
OUTER = ((("f", 1), ("x", 0)), (("f", 2),))
RESULTS = (((("y", 3),), 1), ((("y", 4),), 2))
OUTERS = (
    ((), ((),), OUTER, ((("f", 7),),), LOGS, TWO)
    + tuple(readable_families(24, "abf", 3, 3, 7, seed=64)) + tuple(readable_families(12, "fgh", 3, 2, 6, seed=65))
)


def with_results(logs, seed, values=3):
    """Results with these logs; what is returned is drawn."""
    random = Random(seed)
    return tuple((log, random.randrange(values)) for log in logs)


INNERS = (
    ((), (((), 1),), (((), 9),), RESULTS)
    + tuple(with_results(logs, at) for at, logs in enumerate(readable_families(14, "bcd", 3, 2, 6, seed=66)))
    + tuple(with_results(logs, at) for at, logs in enumerate(readable_families(8, "yz", 2, 3, 5, seed=67)))
)


def joinable(one, other):
    """Whether two logs have no cell with different values."""
    return all(dict(other).get(cell, value) == value for cell, value in one)


def join(one, other):
    """The pairs of both."""
    return tuple(sorted(set(one) | set(other)))


def pairs_of(one, other):
    """A (join, pair) for each joinable pair of a log of one and a log of other."""
    return [(join(*pair), pair) for pair in product(one, other) if joinable(*pair)]


def inlined_of(outer, cell, results):
    """A (log, source) for each log that the document describes, word by word."""
    found = []
    for log in outer:
        if cell not in dict(log):
            found.append((log, (log, None)))
            continue
        rest = tuple(pair for pair in log if pair[0] != cell)
        for inner, result in results:
            if result == dict(log)[cell] and joinable(rest, inner):
                found.append((join(rest, inner), (log, (inner, result))))
    return found


def plainly_results(thing, cell):
    """What the document says of results without the cell, word by word."""
    if type(thing) is not tuple:
        return False
    for entry in thing:
        if type(entry) is not tuple or len(entry) != 2 or not plainly_listing(entry[0]):
            return False
        if type(entry[1]) is not int or not 0 <= entry[1] <= 10 ** 9 or cell in dict(entry[0]):
            return False
    logs = [log for log, _ in thing]
    return sorted(set(logs)) == logs


def plainly_listing(thing):
    """What the document says of a log, however many pairs it has."""
    if type(thing) is not tuple:
        return False
    for pair in thing:
        if type(pair) is not tuple or len(pair) != 2 or type(pair[0]) is not str or type(pair[1]) is not int:
            return False
        if len(pair[0]) not in range(1, 9) or set(pair[0]) - set(LETTERS) or not 0 <= pair[1] <= 10 ** 9:
            return False
    cells = [pair[0] for pair in thing]
    return sorted(set(cells)) == cells


def no_sources(logs):
    """Objects that are none of these logs."""
    found = [None, 0, True, "", "a=0", [], {}, list(logs), ((),), LOGS + CYCLE, ("a", 0), (("zz", 0),), (None,),
        (("a",),)]
    for log in logs[:3]:
        found.extend(changed(log))
        found.extend([log + (("zz", 0),), tuple((cell, bool(value)) for cell, value in log)])
    return [thing for thing in found if not any(same(thing, log) for log in logs)]


class JoinedTest(unittest.TestCase):
    def test_all_pairs_of_families(self):
        empty = shared = 0
        for one, other in product(FAMILIES, repeat=2):
            with self.subTest(one=one, other=other):
                pairs = pairs_of(one, other)
                found = call(self, joined, one=one, other=other)
                self.assertEqual(found, tuple(sorted(join for join, _ in pairs)))
                # Each has exactly one source, so no join was made twice.
                self.assertEqual(len(set(found)), len(pairs))
                self.assertIs(has_reader(found), found != ())
                empty += found == ()
                shared += bool(set(all_cells(one)) & set(all_cells(other))) and len(pairs) < len(one) * len(other)
        self.assertGreater(empty, 60)
        self.assertGreater(shared, 200)

    def test_the_joins_have_a_reader(self):
        for one, other in list(product(FAMILIES, repeat=2))[::5]:
            found = joined(one, other)
            if found and len(found) <= 12:
                self.assertIs(readable(found), True)

    def test_sources(self):
        for one, other in list(product(FAMILIES, repeat=2))[::3]:
            for log, pair in pairs_of(one, other):
                self.assertEqual(call(self, join_source, one=one, other=other, log=log), pair)

    def test_no_sources(self):
        asked = 0
        for one, other in list(product(FAMILIES, repeat=2))[::23]:
            for thing in no_sources(joined(one, other)):
                with self.subTest(one=one, other=other, thing=thing):
                    error = refused(self, NotALog, join_source, one=one, other=other, log=thing)
                    self.assertEqual(repr(vars(error)), repr({"log": thing}))
                    asked += 1
        self.assertGreater(asked, 3000)

    def test_a_log_of_one_side_alone(self):
        one, other = ((("a", 0),), (("a", 1),)), ((("b", 5),),)
        for thing in (*one, *other, (), (("a", 0), ("b", 5), ("c", 0)), (("b", 5), ("a", 0)),
                (("a", 0), ("a", 1), ("b", 5))):
            refused(self, NotALog, join_source, one=one, other=other, log=thing)
        self.assertEqual(join_source(one, other, (("a", 1), ("b", 5))), (one[1], other[0]))

    def test_shared_cells(self):
        one = ((("a", 0), ("b", 0)), (("a", 1), ("b", 1)))
        other = ((("b", 0), ("c", 0)), (("b", 1), ("c", 0)), (("b", 2),))
        self.assertEqual(call(self, joined, one=one, other=other), (
            (("a", 0), ("b", 0), ("c", 0)), (("a", 1), ("b", 1), ("c", 0)),
        ))
        self.assertEqual(call(self, joined, one=one, other=other[2:]), ())
        self.assertEqual(call(self, joined, one=one, other=one), one)

    def test_the_empty_log_and_no_logs(self):
        for logs in FAMILIES:
            self.assertEqual(joined(logs, ((),)), logs)
            self.assertEqual(joined(((),), logs), logs)
            self.assertEqual(joined(logs, ()), ())
            self.assertEqual(joined((), logs), ())
            for log in logs + ((),):
                refused(self, NotALog, join_source, one=logs, other=(), log=log)
                refused(self, NotALog, join_source, one=(), other=logs, log=log)

    def test_any_object(self):
        for thing in THINGS:
            if not same(thing, ()):
                error = refused(self, NotALog, join_source, one=((),), other=((),), log=thing)
                self.assertEqual(repr(error.log), repr(thing))
        for thing in DEEP_THINGS:
            for log in (thing, (thing,), (("a", thing),), ((thing, 0),), (("a", 0), thing)):
                with self.assertRaises(NotALog) as caught:
                    join_source(TWO, LOGS, log)
                self.assertIs(caught.exception.log, log)


class JoinedStuckTest(unittest.TestCase):
    STUCK = (CYCLE, ((), (("a", 0),)), lacking_one(5))

    def refuse(self, one, other):
        first = refused(self, Stuck, joined, one=one, other=other)
        for log in ((), None, (("a", 0),)):
            self.assertEqual(refused(self, Stuck, join_source, one=one, other=other, log=log).group, first.group)
        return first.group

    def test_the_first_logs(self):
        for logs, other in product(self.STUCK, ((), ((),), LOGS) + self.STUCK):
            self.assertIs(is_minimal_stuck(logs, self.refuse(logs, other)), True)

    def test_the_second_logs(self):
        for logs, one in product(self.STUCK, ((), ((),), LOGS)):
            self.assertIs(is_minimal_stuck(logs, self.refuse(one, logs)), True)

    def test_random_logs(self):
        families = random_families(24, seed=68)
        for one, other in product(families, repeat=2):
            stuck = [logs for logs in (one, other) if logs and not readable(logs)]
            if stuck:
                error = refused(self, Stuck, joined, one=one, other=other)
                self.assertIn(error.group, minimal_stuck_groups(stuck[0]))
            else:
                self.assertEqual(joined(one, other), tuple(sorted({log for log, _ in pairs_of(one, other)})))


class InlinedTest(unittest.TestCase):
    def test_all_outers_and_results(self):
        counts = {"empty": 0, "asked": 0, "plain": 0}
        for outer, results in product(OUTERS, INNERS):
            for cell in "fa":
                if any(cell in dict(log) for log, _ in results):
                    continue
                with self.subTest(outer=outer, cell=cell, results=results):
                    wanted = inlined_of(outer, cell, results)
                    found = call(self, inlined, outer=outer, cell=cell, results=results)
                    self.assertEqual(found, tuple(sorted(log for log, _ in wanted)))
                    self.assertEqual(len(set(found)), len(wanted))
                    self.assertIs(has_reader(found), found != ())
                    self.assertNotIn(cell, cells_in(found))
                    counts["empty"] += found == ()
                    counts["asked"] += any(source[1] is not None for _, source in wanted)
                    counts["plain"] += any(source[1] is None for _, source in wanted)
        self.assertGreater(min(counts.values()), 300)

    def test_the_inlined_logs_have_a_reader(self):
        for outer, results in list(product(OUTERS, INNERS))[::3]:
            found = inlined(outer, "f", results)
            if found and len(found) <= 12:
                self.assertIs(readable(found), True)

    def test_sources(self):
        asked = 0
        for outer, results in list(product(OUTERS, INNERS))[::2]:
            for log, source in inlined_of(outer, "f", results):
                arguments = {"outer": outer, "cell": "f", "results": results, "log": log}
                self.assertEqual(call(self, inline_source, **arguments), source)
                asked += 1
        self.assertGreater(asked, 1000)

    def test_no_sources(self):
        asked = 0
        for outer, results in list(product(OUTERS, INNERS))[::31]:
            for thing in no_sources(inlined(outer, "f", results)):
                with self.subTest(outer=outer, results=results, thing=thing):
                    arguments = {"outer": outer, "cell": "f", "results": results, "log": thing}
                    error = refused(self, NotALog, inline_source, **arguments)
                    self.assertEqual(repr(vars(error)), repr({"log": thing}))
                    asked += 1
        self.assertGreater(asked, 1500)

    def test_results_that_no_outer_log_asks_for(self):
        results = (((("y", 3),), 5), ((("y", 4),), 2))
        self.assertEqual(call(self, inlined, outer=OUTER, cell="f", results=results), ((("y", 4),),))
        self.assertEqual(call(self, inlined, outer=OUTER, cell="f", results=results[:1]), ())
        self.assertEqual(call(self, inlined, outer=OUTER, cell="f", results=()), ())

    def test_a_cell_that_no_outer_log_has(self):
        for outer in OUTERS:
            self.assertEqual(call(self, inlined, outer=outer, cell="q", results=RESULTS), outer)
            for log in outer:
                found = call(self, inline_source, outer=outer, cell="q", results=RESULTS, log=log)
                self.assertEqual(found, (log, None))

    def test_shared_cells(self):
        outer = ((("f", 1), ("x", 0)), (("f", 1), ("x", 1)), (("f", 2), ("x", 2)))
        results = (((("x", 0), ("y", 0)), 1), ((("x", 1),), 1), ((("x", 3),), 2))
        self.assertEqual(call(self, inlined, outer=outer, cell="f", results=results), (
            (("x", 0), ("y", 0)), (("x", 1),),
        ))
        found = call(self, inline_source, outer=outer, cell="f", results=results, log=(("x", 1),))
        self.assertEqual(found, (outer[1], results[1]))

    def test_outer_logs_that_differ_in_the_cell_alone(self):
        outer = tuple((("a", 0), ("f", value)) for value in range(3))
        found = call(self, inlined, outer=outer, cell="f", results=RESULTS)
        self.assertEqual(found, ((("a", 0), ("y", 3)), (("a", 0), ("y", 4))))
        for at, log in enumerate(found):
            self.assertEqual(inline_source(outer, "f", RESULTS, log), (outer[at + 1], RESULTS[at]))

    def test_any_object(self):
        for thing in THINGS:
            arguments = {"outer": OUTER, "cell": "f", "results": RESULTS, "log": thing}
            self.assertEqual(repr(refused(self, NotALog, inline_source, **arguments).log), repr(thing))
        for thing in DEEP_THINGS:
            for log in (thing, (thing,), (("x", thing),), ((thing, 0),), (("x", 0), thing)):
                with self.assertRaises(NotALog) as caught:
                    inline_source(OUTER, "f", RESULTS, log)
                self.assertIs(caught.exception.log, log)


class BadResultsTest(unittest.TestCase):
    def refuse(self, error_class, **arguments):
        one = refused(self, error_class, inlined, **arguments)
        for log in ((), None, OUTER[0]):
            self.assertTrue(same(vars(refused(self, error_class, inline_source, **arguments, log=log)), vars(one)))
        return one

    def check(self, outer, thing):
        """BadResults for what is no results, with no error for others; whether it is none."""
        if plainly_results(thing, "f"):
            if not thing or readable(tuple(log for log, _ in thing)):
                call(self, inlined, outer=outer, cell="f", results=thing)
            return False
        error = self.refuse(BadResults, outer=outer, cell="f", results=thing)
        self.assertEqual(repr(vars(error)), repr({"results": thing}))
        return True

    def test_changed_results(self):
        asked = 0
        for outer in (OUTER, (), CYCLE):
            for results in (RESULTS, (((("b", 0), ("c", 1)), 10 ** 9), ((("b", 1),), 0))):
                for thing in changed(results):
                    if outer == CYCLE and plainly_results(thing, "f"):
                        self.refuse(Stuck, outer=outer, cell="f", results=thing)
                    else:
                        asked += self.check(outer, thing)
        self.assertGreater(asked, 800)

    def test_edges(self):
        for thing, wrong in (
            ((), False), ((((), 0),), False), ((((), 10 ** 9),), False), ((((), 10 ** 9 + 1),), True),
            ((((), -1),), True),
            ((((), True),), True), ((((), None),), True), ((((), 0), ((), 0)), True), ((((), 0), ((), 1)), True),
            ((((("y", 0),), 0), ((("y", 0),), 1)), True), ((((("y", 1),), 0), ((("y", 0),), 1)), True),
            ((((("y", 10 ** 9),), 0),), False), ((((("y", 10 ** 9 + 1),), 0),), True), ((((("y", True),), 0),), True),
            ((((("f", 0),), 0),), True), ((((("e", 0), ("f", 0)), 0),), True), ((((("ff", 0),), 0),), False),
            (((["y", 0], 0),), True), (([(("y", 0),), 0],), True), ([((("y", 0),), 0)], True),
            ((((("y", 0),), [0]),), True),
            ((((("z", 0), ("y", 0)), 0),), True), (((()),), True), ((((),),), True), ((((), 0, 0),), True),
            (((0, ()),), True),
            ({(): 0}, True), (None, True), ((((("y", 0),),),), True), ((LOGS,), True), ((((("y", 0),), LOGS),), True),
        ):
            with self.subTest(thing=thing):
                self.assertIs(self.check(OUTER, thing), wrong)

    def test_the_cell_of_the_call_counts(self):
        results = (((("b", 0),), 0), ((("b", 1), ("c", 0)), 1))
        for cell, wrong in (("b", True), ("c", True), ("a", False), ("d", False)):
            if wrong:
                error = refused(self, BadResults, inlined, outer=LOGS, cell=cell, results=results)
                self.assertEqual(error.results, results)
            else:
                call(self, inlined, outer=LOGS, cell=cell, results=results)

    def test_any_object(self):
        for thing in THINGS:
            with self.subTest(thing=thing):
                self.check(OUTER, thing)
                self.check(OUTER, ((thing, 0),))
                self.check(OUTER, (((), thing),))
        for thing in DEEP_THINGS:
            for results in (thing, (thing,), ((thing, 0),), (((), thing),), (((("y", thing),), 0),), (((), 0), thing)):
                for function, more in ((inlined, ()), (inline_source, ((),))):
                    with self.assertRaises(BadResults) as caught:
                        function(OUTER, "f", results, *more)
                    self.assertIs(caught.exception.results, results)

    def test_bad_results_then_the_outer_logs_then_the_inner_ones(self):
        bad = ((((), 0), ((), 1)), None, (((("f", 0),), 0),))
        stuck_results = tuple((log, 0) for log in CYCLE)
        stuck_outer = ((), (("f", 0),))
        for results in bad:
            self.refuse(BadResults, outer=stuck_outer, cell="f", results=results)
        for results in ((), RESULTS, stuck_results):
            error = self.refuse(Stuck, outer=stuck_outer, cell="f", results=results)
            self.assertEqual(error.group, stuck_outer)
        for outer in ((), ((),), OUTER):
            self.assertEqual(self.refuse(Stuck, outer=outer, cell="f", results=stuck_results).group, CYCLE)

    def test_all_small_logs_as_results(self):
        for logs in small_families():
            results = tuple((log, 1) for log in logs)
            if logs and not readable(logs):
                error = self.refuse(Stuck, outer=OUTER, cell="f", results=results)
                self.assertIn(error.group, minimal_stuck_groups(logs))
            else:
                self.assertIs(self.check(OUTER, results), False)


class ManyLogsTest(unittest.TestCase):
    def renamed(self, logs):
        """The logs with a z ahead of all cells."""
        return tuple(tuple((f"z{cell}", value) for cell, value in log) for log in logs)

    def test_three_hundred_logs_on_either_side(self):
        one, other = many_logs(300), self.renamed(many_logs(300))
        found = joined(one, other)
        self.assertEqual(len(found), 90000)
        self.assertEqual(found, tuple((("a", at), ("za", below)) for at in range(300) for below in range(300)))
        self.assertEqual(join_source(one, other, (("a", 7), ("za", 299))), (one[7], other[299]))
        refused(self, NotALog, join_source, one=one, other=other, log=(("a", 7), ("za", 300)))
        self.assertEqual(joined(one, one), one)
        self.assertEqual(joined(WIDEST, WIDEST), WIDEST)
        self.assertEqual(joined(LONGEST_CHAIN, LONGEST_CHAIN), LONGEST_CHAIN)
        self.assertEqual(joined(WIDEST, ((("aa", 5),),)), WIDEST[5:6])

    def test_results_that_are_passed_on(self):
        found = joined(many_logs(20), self.renamed(flat_logs(20, 3)))
        self.assertEqual(len(found), 400)
        self.assertIs(has_reader(found), True)
        self.assertEqual(logs_of(reader_for(found)), found)
        again = joined(found, ((("b", 0),), (("b", 1),)))
        self.assertEqual(len(again), 800)
        self.assertEqual(join_source(found, ((("b", 0),), (("b", 1),)), again[25]), (found[5], (("b", 1),)))
        results = tuple((log, at % 3) for at, log in enumerate(found))
        outer = tuple((("f", at), ("x", at)) for at in range(3))
        whole = call(self, inlined, outer=outer, cell="f", results=results)
        self.assertEqual(len(whole), 400)
        self.assertEqual(inline_source(outer, "f", results, whole[0])[1][0], whole[0][:1] + whole[0][2:])

    def test_more_than_sixty_cells_in_a_join(self):
        one, other = (log_of(60),), self.renamed((log_of(60),))
        found = call(self, joined, one=one, other=other)
        self.assertEqual(found, (one[0] + other[0],))
        self.assertEqual(call(self, join_source, one=one, other=other, log=found[0]), (one[0], other[0]))
        outer = (tuple(sorted(log_of(59) + (("f", 3),))),)
        results = ((self.renamed((log_of(60),))[0], 3),)
        whole = call(self, inlined, outer=outer, cell="f", results=results)
        self.assertEqual(whole, (log_of(59) + results[0][0],))
        self.assertEqual(inline_source(outer, "f", results, whole[0]), (outer[0], results[0]))
        longer = ((found[0], 1),)
        self.assertEqual(call(self, inlined, outer=OUTER, cell="f", results=longer), (
            tuple(sorted(found[0] + (("x", 0),))),
        ))

    def test_three_hundred_results(self):
        results = tuple((log, at) for at, log in enumerate(WIDEST))
        outer = tuple((("f", at), ("x", 299 - at)) for at in range(300))
        whole = call(self, inlined, outer=outer, cell="f", results=results)
        self.assertEqual(whole, tuple(log + (("x", 299 - at),) for at, log in enumerate(WIDEST)))
        self.assertEqual(inline_source(outer, "f", results, whole[17]), (outer[17], results[17]))


if __name__ == "__main__":
    unittest.main()
