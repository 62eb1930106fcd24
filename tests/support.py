"""What several tests use."""

from copy import deepcopy
from inspect import Parameter, signature

LOGS = ((("a", 0), ("b", 1)), (("a", 0), ("b", 2), ("c", 5)), (("a", 1), ("c", 2)))
READER = ("a", ((0, ("b", ((1, ()), (2, ("c", ((5, ()),)))))), (1, ("c", ((2, ()),)))))

PAIR = ((("a", 0), ("b", 1)), (("a", 1), ("b", 1), ("c", 2)))
TWO = ((("a", 0), ("b", 0)), (("a", 1), ("b", 1)))
CYCLE = ((("a", 0), ("b", 1)), (("a", 1), ("c", 0)), (("b", 0), ("c", 1)))

LETTERS = "abcdefghijklmnopqrstuvwxyz"


def name(number):
    """A cell for each number below 676; ascending numbers give ascending cells."""
    return LETTERS[number // 26] + LETTERS[number % 26]


def wrapped(thing, levels, wrap):
    """The object below so many levels of what wrap makes."""
    for _ in range(levels):
        thing = wrap(thing)
    return thing


def reader_chain(nodes, end=()):
    """Nodes with one branch each, one below the other."""
    reader = end
    for number in reversed(range(nodes)):
        reader = (name(number), ((0, reader),))
    return reader


def wide_reader(leaves):
    """One node with a leaf at each branch."""
    return ("a", tuple((value, ()) for value in range(leaves)))


def log_of(pairs):
    """A log of so many pairs."""
    return tuple((name(number), number) for number in range(pairs))


def many_logs(many):
    """So many logs of one pair each."""
    return tuple((("a", value),) for value in range(many))


ATOMS = (0, 1, -1, 10 ** 9, 10 ** 30, True, False, None, "", "a", "b", "A", "abc def", "\u00e9", (), [], {})
WRAPS = (
    lambda thing: (thing,),
    lambda thing: [thing],
    lambda thing: {"a": thing},
    lambda thing: ("a", thing),
    lambda thing: (thing, 0),
    lambda thing: ("a", ((0, thing),)),
    lambda thing: (("a", thing),),
)
# Objects of all kinds that "any object" covers, down to thirty levels; what
# each of them is, the tests find out by a definition of their own.
THINGS = (
    ATOMS
    + tuple(wrap(atom) for atom in ATOMS for wrap in WRAPS)
    + tuple(wrap(inner(atom)) for atom in ATOMS for inner in WRAPS for wrap in WRAPS)
    + tuple(wrapped(atom, levels, wrap) for atom in ((), [], 0, True) for levels in (9, 29, 30) for wrap in WRAPS)
    + (LOGS, READER, list(LOGS), list(READER), {"a": LOGS}, {0: READER}, {("a", 0): ()})
)
# Nested far deeper than a reader or than Python's recursion allows; they are
# never printed, copied or compared.
DEEP_THINGS = tuple(
    wrapped(atom, levels, wrap) for atom in ((), 0) for levels in (61, 200, 5000) for wrap in WRAPS
) + tuple(reader_chain(nodes, end) for nodes in (61, 62, 400) for end in ((), None, READER))


def same(one, other):
    """Whether two values are equal and of the same kinds (True is not 1 here)."""
    return repr(one) == repr(other)


def passed(function, arguments):
    """The arguments by position, and those that are taken by name only."""
    parameters = signature(function).parameters
    named = {name: value for name, value in arguments.items() if parameters[name].kind == Parameter.KEYWORD_ONLY}
    return [value for name, value in arguments.items() if name not in named], named


def call(case, function, **arguments):
    """The result of a call, by name and by position, again and again the same.

    Fails if a call changes an argument.
    """
    before = deepcopy(arguments)
    result = function(**arguments)
    positional, named = passed(function, arguments)
    case.assertTrue(same(function(*positional, **named), result))
    case.assertTrue(same(function(**arguments), result))
    case.assertTrue(same(arguments, before), "an argument was changed")
    return result


def refused(case, error_class, function, **arguments):
    """The error of a call, by name and by position, again and again the same.

    Fails if a call raises another one or changes an argument.
    """
    before = deepcopy(arguments)
    with case.assertRaises(error_class) as caught:
        function(**arguments)
    positional, named = passed(function, arguments)
    with case.assertRaises(error_class) as again:
        function(*positional, **named)
    case.assertIs(type(caught.exception), error_class)
    case.assertIs(type(again.exception), error_class)
    case.assertTrue(same(vars(caught.exception), vars(again.exception)))
    case.assertTrue(same(arguments, before), "an argument was changed")
    return caught.exception


def changed(thing):
    """Objects that are made from a tuple, an integer or a string by one change."""
    yield from (None, {}, [], {"a": 0}, (thing,), [thing], str(thing))
    if type(thing) is int:
        yield from (thing + 1, bool(thing))
    if type(thing) is str:
        yield from (thing + "a", "q", 0, True)
    if type(thing) is tuple:
        yield from ((), list(thing), thing[::-1], thing + thing[-1:], thing + (None,), dict(enumerate(thing)))
        for at, part in enumerate(thing):
            yield thing[:at] + thing[at + 1:]
            yield thing[:at] + (part, part) + thing[at + 1:]
            yield thing[:at] + thing[at + 1:at + 2] + (part,) + thing[at + 2:]
            for other in changed(part):
                yield thing[:at] + (other,) + thing[at + 1:]


def lacking_one(many):
    """So many logs; each has all cells but one. They are a minimal stuck group."""
    cells = [name(number) for number in range(many)]
    return tuple(sorted(
        tuple((cell, place) for cell in cells if cell != missing) for place, missing in enumerate(cells)
    ))


def chain_logs(long, wide):
    """Logs of a program that reads cell after cell, until one of them is not 0."""
    return tuple(sorted(
        tuple((name(at), 0) for at in range(end)) + ((name(end), value),)
        for end in range(long) for value in range(1, wide + 1)
    ))


def flat_logs(many, pairs):
    """So many logs of the same cells; each cell tells all logs apart."""
    return tuple(tuple((name(number), value) for number in range(pairs)) for value in range(many))


# 300 logs and 60 cells each: one cell after the other, and all cells at once.
LONGEST_CHAIN = chain_logs(60, 5)
WIDEST = flat_logs(300, 60)
