"""What several tests use."""

from copy import deepcopy

LOGS = ((("a", 0), ("b", 1)), (("a", 0), ("b", 2), ("c", 5)), (("a", 1), ("c", 2)))
READER = ("a", ((0, ("b", ((1, ()), (2, ("c", ((5, ()),)))))), (1, ("c", ((2, ()),)))))

LETTERS = "abcdefghijklmnopqrstuvwxyz"


def name(number):
    """A cell for each number below 676; ascending numbers give ascending cells."""
    return LETTERS[number // 26] + LETTERS[number % 26]


def wrapped(thing, levels, wrap):
    """The object below so many levels of what wrap makes."""
    for _ in range(levels):
        thing = wrap(thing)
    return thing


def reader_chain(nodes, end=()):
    """Nodes with one branch each, one below the other."""
    reader = end
    for number in reversed(range(nodes)):
        reader = (name(number), ((0, reader),))
    return reader


def wide_reader(leaves):
    """One node with a leaf at each branch."""
    return ("a", tuple((value, ()) for value in range(leaves)))


def log_of(pairs):
    """A log of so many pairs."""
    return tuple((name(number), number) for number in range(pairs))


def many_logs(many):
    """So many logs of one pair each."""
    return tuple((("a", value),) for value in range(many))


ATOMS = (0, 1, -1, 10 ** 9, 10 ** 30, True, False, None, "", "a", "b", "A", "abc def", "\u00e9", (), [], {})
WRAPS = (
    lambda thing: (thing,),
    lambda thing: [thing],
    lambda thing: {"a": thing},
    lambda thing: ("a", thing),
    lambda thing: (thing, 0),
    lambda thing: ("a", ((0, thing),)),
    lambda thing: (("a", thing),),
)
# Objects of all kinds that "any object" covers, down to thirty levels; what
# each of them is, the tests find out by a definition of their own.
THINGS = (
    ATOMS
    + tuple(wrap(atom) for atom in ATOMS for wrap in WRAPS)
    + tuple(wrap(inner(atom)) for atom in ATOMS for inner in WRAPS for wrap in WRAPS)
    + tuple(wrapped(atom, levels, wrap) for atom in ((), [], 0, True) for levels in (9, 29, 30) for wrap in WRAPS)
    + (LOGS, READER, list(LOGS), list(READER), {"a": LOGS}, {0: READER}, {("a", 0): ()})
)
# Nested far deeper than a reader or than Python's recursion allows; they are
# never printed, copied or compared.
DEEP_THINGS = tuple(
    wrapped(atom, levels, wrap) for atom in ((), 0) for levels in (61, 200, 5000) for wrap in WRAPS
) + tuple(reader_chain(nodes, end) for nodes in (61, 62, 400) for end in ((), None, READER))


def same(one, other):
    """Whether two values are equal and of the same kinds (True is not 1 here)."""
    return repr(one) == repr(other)


def call(case, function, **arguments):
    """The result of a call, by name and by position, again and again the same.

    Fails if a call changes an argument.
    """
    before = deepcopy(arguments)
    result = function(**arguments)
    case.assertTrue(same(function(*arguments.values()), result))
    case.assertTrue(same(function(**arguments), result))
    case.assertTrue(same(arguments, before), "an argument was changed")
    return result
