"""Points [14] and [15], and [3] (e): swaps in readers, and what connects any two of them."""

import unittest
from itertools import product
from random import Random

from readorder.errors import BadSwap, DifferentLogs, TooLarge
from readorder.groups import reader_for
from readorder.readers import is_reader, logs_of
from readorder.swaps import after_swaps, can_swap, node_at, shows_swaps, swapped, swaps_between
from tests.brute import all_cells, all_readers, random_reader, readable_families
from tests.support import (
    DEEP_THINGS, LOGS, LONGEST_CHAIN, PAIR, READER, THINGS, TWO, WIDEST, call, chain_logs, changed, flat_logs, log_of,
    name, reader_chain, refused, wide_reader,
)

FAMILIES = tuple(
    logs for logs in (
        (LOGS, PAIR, TWO, ((),), ((("a", 1), ("b", 0)),), (log_of(3),), chain_logs(3, 2), flat_logs(3, 2))
        + tuple(readable_families(60, most=6, seed=41)) + tuple(readable_families(40, "abc", 3, 3, 7, seed=42))
    )
    if len(all_readers(logs)) <= 60
)
TURNED = ("b", ((0, ("a", ((0, ()),))), (1, ("a", ((1, ()),)))))
OTHER_PLACES = (
    None, 0, True, "", "a", [], [0], {}, {0: ()}, (None,), (True,), (False,), ((),), ((0,),), ("0",), ([0],), ({},),
    (0, True), (0, None), (-1,), (10 ** 9,), (10 ** 30,), (0, 10 ** 30), LOGS, READER,
)


def parts_of(reader, place=()):
    """The (place, reader there) pairs of all places in a reader."""
    yield place, reader
    if reader != ():
        for value, below in reader[1]:
            yield from parts_of(below, place + (value,))


def places_of(reader):
    """All places of a reader, and such as are none: beyond a leaf, at values that no branch has."""
    for place, part in parts_of(reader):
        yield place
        values = [value for value, _ in part[1]] if part else []
        for value in {0, 1, 7, -1, 10 ** 9} - set(values):
            yield place + (value,)
        for value in values + [0, 1]:
            yield place + (bool(value),)
        yield from (place + (None,), place + ("a",), place + ((0,),), list(place), place + ([0],))


def is_place(place):
    """Whether an object is a tuple of integers."""
    return type(place) is tuple and all(type(value) is int for value in place)


def plainly_at(reader, place):
    """The part that stands at the place, None if the object is no place in the reader."""
    found = [part for one, part in parts_of(reader) if is_place(place) and one == place]
    return found[0] if found else None


def plainly_swappable(part):
    """What the document says of a node that can be swapped, word by word."""
    if part in (None, ()):
        return False
    belows = [below for _, below in part[1]]
    return all(below != () for below in belows) and len({below[0] for below in belows}) == 1


def plainly_turned(part):
    """What the swap replaces the node by, word by word."""
    cell, branches = part
    nodes = {value: dict(below[1]) for value, below in branches}
    others = sorted({other for node in nodes.values() for other in node})
    return (branches[0][1][0], tuple(
        (other, (cell, tuple((value, node[other]) for value, node in nodes.items() if other in node)))
        for other in others
    ))


def plainly_replaced(reader, place, part):
    """The reader with a part replaced."""
    if place == ():
        return part
    return (reader[0], tuple(
        (value, plainly_replaced(below, place[1:], part) if value == place[0] else below) for value, below in reader[1]
    ))


def random_readers(many, seed):
    """So many readers with a few cells."""
    random = Random(seed)
    return [random_reader(random, tuple("abcde"), 5, 3) for _ in range(many)]


READERS = tuple(reader for logs in FAMILIES for reader in all_readers(logs)[:4]) + tuple(random_readers(40, 43))


class PlacesTest(unittest.TestCase):
    def check(self, reader, place):
        """The three functions at one place, against the definition; whether it can be swapped."""
        part = plainly_at(reader, place)
        self.assertEqual(call(self, node_at, reader=reader, place=place), part)
        can = plainly_swappable(part)
        self.assertIs(call(self, can_swap, reader=reader, place=place), can)
        if can:
            wanted = plainly_replaced(reader, place, plainly_turned(part))
            self.assertEqual(call(self, swapped, reader=reader, place=place), wanted)
        else:
            error = refused(self, BadSwap, swapped, reader=reader, place=place)
            self.assertEqual(repr(vars(error)), repr({"place": place}))
        return can

    def test_every_place_and_others(self):
        counts = {False: 0, True: 0}
        for reader in READERS[::2]:
            for place in places_of(reader):
                with self.subTest(reader=reader, place=place):
                    counts[self.check(reader, place)] += 1
        self.assertGreater(counts[True], 150)
        self.assertGreater(counts[False], 5000)

    def test_other_objects(self):
        for reader in ((), READER, TURNED, reader_chain(3), wide_reader(3)):
            for place in OTHER_PLACES:
                self.check(reader, place)

    def test_any_object(self):
        for reader in (READER, TURNED):
            for thing in THINGS:
                with self.subTest(reader=reader, thing=thing):
                    self.check(reader, thing)
            for thing in DEEP_THINGS:
                for place in (thing, (thing,), (0, thing), (0, 0, thing)):
                    self.assertIsNone(node_at(reader, place))
                    self.assertIs(can_swap(reader, place), False)
                    with self.assertRaises(BadSwap) as caught:
                        swapped(reader, place)
                    self.assertIs(caught.exception.place, place)

    def test_a_leaf(self):
        self.assertEqual(call(self, node_at, reader=(), place=()), ())
        self.assertEqual(call(self, node_at, reader=READER, place=(0, 1)), ())
        self.assertIsNone(call(self, node_at, reader=READER, place=(0, 1, 0)))
        self.assertIs(can_swap((), ()), False)
        self.assertIs(can_swap(READER, (0, 1)), False)

    def test_a_branch_that_is_a_leaf_or_reads_another_cell(self):
        below = ("b", ((0, ()),))
        for branches, wanted in (
            (((0, below),), True), (((0, below), (5, below)), True), (((0, below), (1, ())), False),
            (((0, ()), (1, below)), False), (((0, below), (1, ("c", ((0, ()),)))), False), (((0, ()),), False),
        ):
            self.assertIs(call(self, can_swap, reader=("a", branches), place=()), wanted)

    def test_a_swap_keeps_the_logs(self):
        swaps = 0
        for reader in READERS:
            for place, part in parts_of(reader):
                if plainly_swappable(part):
                    other = swapped(reader, place)
                    self.assertIs(is_reader(other), True)
                    self.assertEqual(logs_of(other), logs_of(reader))
                    self.assertEqual(swapped(other, place), reader)
                    swaps += 1
        self.assertGreater(swaps, 300)

    def test_values_that_only_some_branches_have(self):
        reader = ("a", ((0, ("b", ((0, ()), (2, READER)))), (3, ("b", ((1, ()), (2, TURNED))))))
        wanted = ("b", (
            (0, ("a", ((0, ()),))), (1, ("a", ((3, ()),))), (2, ("a", ((0, READER), (3, TURNED)))),
        ))
        self.assertEqual(call(self, swapped, reader=reader, place=()), wanted)
        self.assertEqual(call(self, swapped, reader=wanted, place=()), reader)

    def test_great_values(self):
        reader = ("a", ((0, ("b", ((10 ** 9, ()),))), (10 ** 9, ("b", ((5, ()),)))))
        self.assertEqual(node_at(reader, (10 ** 9, 5)), ())
        self.assertEqual(swapped(reader, ()), ("b", ((5, ("a", ((10 ** 9, ()),))), (10 ** 9, ("a", ((0, ()),))))))


class AfterSwapsTest(unittest.TestCase):
    def test_rows_of_places(self):
        random = Random(44)
        good = bad = 0
        for reader in READERS:
            for _ in range(4):
                part, row, wrong = reader, [], None
                for _ in range(random.randint(0, 5)):
                    places = [place for place, below in parts_of(part) if plainly_swappable(below)]
                    if not places or random.random() < 0.15:
                        others = [place for place in places_of(part) if not plainly_swappable(plainly_at(part, place))]
                        wrong = random.choice(others)
                        row.extend([wrong, None, ()])
                        break
                    row.append(random.choice(places))
                    part = plainly_replaced(part, row[-1], plainly_turned(plainly_at(part, row[-1])))
                swaps = tuple(row)
                with self.subTest(reader=reader, swaps=swaps):
                    if wrong is None:
                        self.assertEqual(call(self, after_swaps, reader=reader, swaps=swaps), part)
                        good += 1
                    else:
                        error = refused(self, BadSwap, after_swaps, reader=reader, swaps=swaps)
                        self.assertEqual(repr(vars(error)), repr({"place": wrong}))
                        bad += 1
        self.assertGreater(min(good, bad), 200)

    def test_no_swaps(self):
        for reader in ((), READER, TURNED):
            self.assertEqual(call(self, after_swaps, reader=reader, swaps=()), reader)

    def test_the_first_bad_place(self):
        reader = reader_for(TWO)
        for row, wrong in (
            (((), (5,), None), (5,)), (((), (0,), ()), (0,)), ((None, ()), None), (((), (), True), True),
            (((), (True,)), (True,)), (([],), []), (((0, 0, 0),), (0, 0, 0)),
        ):
            error = refused(self, BadSwap, after_swaps, reader=reader, swaps=row)
            self.assertEqual(repr(error.place), repr(wrong))

    def test_any_object(self):
        for thing in THINGS + DEEP_THINGS:
            if thing != ():
                with self.assertRaises(BadSwap) as caught:
                    after_swaps(TURNED, ((), thing, ()))
                self.assertIs(caught.exception.place, thing)


class SwapsBetweenTest(unittest.TestCase):
    def check(self, one, other):
        """The swaps lead from one reader to the other; how many there are."""
        swaps = call(self, swaps_between, one=one, other=other)
        self.assertIs(type(swaps), tuple)
        self.assertTrue(all(is_place(place) for place in swaps))
        self.assertLessEqual(len(swaps), 20000)
        self.assertIs(call(self, shows_swaps, one=one, other=other, thing=swaps), True)
        self.assertEqual(after_swaps(one, swaps), other)
        return len(swaps)

    def test_all_pairs_of_readers(self):
        asked = 0
        for logs in FAMILIES:
            readers = all_readers(logs)[:12]
            for one, other in product(readers, repeat=2):
                with self.subTest(one=one, other=other):
                    many = self.check(one, other)
                    self.assertIs(many == 0, one == other)
                    asked += 1
        self.assertGreater(asked, 1000)

    def test_equal_readers(self):
        for reader in READERS + (reader_chain(60), reader_for(WIDEST[:10])):
            self.assertEqual(call(self, swaps_between, one=reader, other=reader), ())

    def test_different_logs(self):
        readers = [all_readers(logs)[0] for logs in FAMILIES[:30]]
        for one, other in product(readers, repeat=2):
            if logs_of(one) != logs_of(other):
                self.assertEqual(vars(refused(self, DifferentLogs, swaps_between, one=one, other=other)), {})
        self.assertIs(call(self, shows_swaps, one=reader_for(TWO), other=READER, thing=((),)), False)

    def test_readers_of_drawn_programs(self):
        random = Random(45)
        for reader in random_readers(60, 46):
            part = reader
            for _ in range(12):
                places = [place for place, below in parts_of(part) if plainly_swappable(below)]
                part = swapped(part, random.choice(places)) if places else part
            self.check(reader, part)
            self.check(part, reader)


class ShowsSwapsTest(unittest.TestCase):
    ONE, OTHER = reader_for(PAIR, prefer=("b",)), reader_for(PAIR)

    def test_swaps_to_this_reader_and_to_others(self):
        for logs in FAMILIES[::3]:
            readers = all_readers(logs)[:6]
            for one, other, third in product(readers, repeat=3):
                thing = swaps_between(one, other)
                self.assertIs(shows_swaps(one, third, thing), other == third)

    def test_any_object(self):
        swaps = swaps_between(self.ONE, self.OTHER)
        self.assertEqual(swaps, ((),))
        for thing in tuple(THINGS) + tuple(changed(swaps)) + (((), ()), ((), (), ()), [()], ((True,),), ((0,),),
                ((5,),)):
            with self.subTest(thing=thing):
                wanted = type(thing) is tuple and set(map(repr, thing)) <= {"()"} and len(thing) % 2 == 1
                self.assertIs(call(self, shows_swaps, one=self.ONE, other=self.OTHER, thing=thing), wanted)
        for thing in DEEP_THINGS:
            for swaps in (thing, (thing,), ((), thing), (thing, ())):
                # Only rows of nothing but () swap the root again and again.
                wanted = type(swaps) is tuple and all(place == () for place in swaps) and len(swaps) % 2 == 1
                self.assertIs(shows_swaps(self.ONE, self.OTHER, swaps), wanted)

    def test_equal_readers(self):
        for thing, wanted in (((), True), (((), ()), True), (((),), False), (None, False), ([], False),
                (((5,),), False)):
            self.assertIs(call(self, shows_swaps, one=self.ONE, other=self.ONE, thing=thing), wanted)


def two_reads(first, second, values):
    """A reader of so many logs with two cells each."""
    return (first, tuple((value, (second, ((value, ()),))) for value in range(values)))


class ManyPairsTest(unittest.TestCase):
    def check(self, one, other):
        swaps = swaps_between(one, other)
        self.assertLessEqual(len(swaps), 20000)
        self.assertIs(shows_swaps(one, other, swaps), True)

    def with_one_more(self, reader):
        """The reader with one cell more in its last log."""
        cell, branches = reader
        value, (below, ((last, _),)) = branches[-1]
        return (cell, branches[:-1] + ((value, (below, ((last, ("zz", ((0, ()),))),))),))

    def test_six_hundred_pairs_and_one_more(self):
        one, other = two_reads("a", "b", 300), two_reads("b", "a", 300)
        self.assertEqual(sum(len(log) for log in logs_of(one)), 600)
        self.assertIs(shows_swaps(one, other, call(self, swaps_between, one=one, other=other)), True)
        self.assertEqual(swaps_between(one, one), ())
        more, other_more = self.with_one_more(one), self.with_one_more(other)
        self.assertEqual(logs_of(more), logs_of(other_more))
        self.assertEqual(sum(len(log) for log in logs_of(more)), 601)
        for first, second in ((more, other_more), (more, more)):
            self.assertEqual(vars(refused(self, TooLarge, swaps_between, one=first, other=second)), {"limit": 600})
        for first, second in ((more, one), (one, more), (more, wide_reader(3)), (reader_for(WIDEST), more)):
            self.assertEqual(vars(refused(self, DifferentLogs, swaps_between, one=first, other=second)), {})

    def test_too_large_readers_are_swapped(self):
        one = two_reads("a", "b", 301)
        self.assertEqual(vars(refused(self, TooLarge, swaps_between, one=one, other=one)), {"limit": 600})
        self.assertIs(call(self, shows_swaps, one=one, other=two_reads("b", "a", 301), thing=((),)), True)

    def test_ten_logs_of_sixty_cells(self):
        backward = tuple(name(number) for number in reversed(range(60)))
        for logs in (
            flat_logs(10, 60),
            tuple(tuple((name(at), value if at == 0 else 0) for at in range(60)) for value in range(10)),
            tuple(tuple((name(at), value if at == 59 else 0) for at in range(60)) for value in range(10)),
        ):
            one, other = reader_for(logs), reader_for(logs, prefer=backward)
            self.check(one, other)
            self.check(other, one)

    def test_many_logs_of_few_cells(self):
        for many, pairs in ((300, 2), (100, 6), (40, 15), (20, 30)):
            logs = flat_logs(many, pairs)
            cells = all_cells(logs)
            for prefer in (cells[::-1], cells[1::2] + cells[::2], cells[pairs // 2:]):
                self.check(reader_for(logs), reader_for(logs, prefer=prefer))

    def test_a_chain_beside_other_cells(self):
        logs = tuple(
            tuple(sorted(log + tuple((f"x{cell}", 1) for cell in "abcdefgh"))) for log in chain_logs(8, 5)
        )
        self.assertLessEqual(sum(len(log) for log in logs), 600)
        for prefer in (("xh", "xg", "xa"), ("aa", "xa", "ab", "xb", "ac"), tuple(f"x{cell}" for cell in "hgfedcba")):
            one, other = reader_for(logs), reader_for(logs, prefer=prefer)
            self.check(one, other)
            self.check(other, one)

    def test_places_in_large_readers(self):
        chain = reader_for(LONGEST_CHAIN)
        place = (0,) * 58
        self.assertIs(call(self, can_swap, reader=chain, place=place), False)
        self.assertEqual(call(self, node_at, reader=chain, place=(0,) * 59)[0], name(59))
        wide = reader_for(WIDEST)
        self.assertIs(call(self, can_swap, reader=wide, place=()), True)
        other = call(self, swapped, reader=wide, place=())
        self.assertEqual(other[0], name(1))
        self.assertEqual(logs_of(other), WIDEST)
        deep = (299,) * 58
        self.assertIs(can_swap(wide, deep), True)
        self.assertEqual(logs_of(swapped(wide, deep)), WIDEST)
        single = reader_chain(60)
        self.assertEqual(node_at(single, (0,) * 60), ())
        self.assertIsNone(node_at(single, (0,) * 61))
        self.assertIs(can_swap(single, (0,) * 58), True)
        self.assertIs(can_swap(single, (0,) * 59), False)
        self.assertEqual(call(self, node_at, reader=wide_reader(300), place=(299,)), ())


if __name__ == "__main__":
    unittest.main()
