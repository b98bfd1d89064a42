"""What the tests hold the program against: letters one by one, told without the program."""

import itertools
import random

from throng import errors

REFUSALS = ["Misfit", "Twice", "NoField", "NoRule", "NoWay", "NoDoor", "NoHouse", "NoLine", "BadWord", "Unlike"]

# No rows and no letters, of whatever width.
OTHER_THINGS = [
    None, True, False, 0, 1, 2, 10, 101, -1, [], (), [""], ("",), ["0"], ("0",), ["0", "1"], ("0", "1"),
    ["0", "1", "-"], ("0", "1", "-"), [0], (1,), [0, 1], (0, 1), [None], (True,), [["0"]], [("0", "1")],
]
OTHER_SIGNS = [
    "2", "9", "a", "O", "o", "l", "I", " ", "\n", "\r", "\t", "\0", "_", "+", "*", "?", "x", ".", "\u2212",
    "\u2013", "\u00ad", "\uff10", "\uff11", "\u0660", "\u0661", "\u00b9", "\x0b", "\x0c", "\x85", "\u2028", "\u200b",
]

# Twelve places of 48, the first and the last among them.
PLACES = [0, 3, 4, 11, 12, 20, 23, 30, 31, 40, 46, 47]


def all_letters(width):
    return ["".join(signs) for signs in itertools.product("01", repeat=width)]


def all_rows(width):
    return ["".join(signs) for signs in itertools.product("01-", repeat=width)]


def letters_in(row):
    choices = {"0": "0", "1": "1", "-": "01"}
    return {"".join(signs) for signs in itertools.product(*[choices[sign] for sign in row])}


def letters_of(heap):
    return set().union(*[letters_in(row) for row in heap])


def all_heaps(width, most):
    """Every heap of at most so many rows, those with alike rows too."""
    rows = all_rows(width)
    for count in range(most + 1):
        for heap in itertools.product(rows, repeat=count):
            yield list(heap)


def some_heaps(seed, width, count, most):
    """So many heaps of 0 to most rows, the same ones for the same seed."""
    chance = random.Random(seed)
    signs = ["01-", "01--", "01------"]
    heaps = []
    for number in range(count):
        drawn = chance.choice(signs)
        size = chance.randint(0, most)
        heaps.append(["".join(chance.choice(drawn) for place in range(width)) for row in range(size)])
    return heaps


def spread(heap, places, width):
    """The heap with its signs at these places of so many, and - elsewhere."""
    wide = []
    for row in heap:
        signs = ["-"] * width
        for sign, place in zip(row, places):
            signs[place] = sign
        wide.append("".join(signs))
    return wide


def narrow(row, places):
    return "".join(row[place] for place in places)


def deep_kinds(thing):
    """The kinds of a thing and of all in it, exact, so that a truth is no int."""
    if type(thing) in (list, tuple):
        return (type(thing), [deep_kinds(part) for part in thing])
    return type(thing)


def check_refused(test, kind, function, *given):
    """That it refuses with just this class, under the base, and with none of the others."""
    with test.assertRaises(ValueError) as caught:
        function(*given)
    error = caught.exception
    test.assertIs(type(error), getattr(errors, kind), given)
    test.assertIsInstance(error, errors.ThrongError)
    for name in REFUSALS:
        test.assertEqual(isinstance(error, getattr(errors, name)), name == kind, given)


def check_apart(test, rows, width, letters):
    """That the rows are of the width, are apart, and have just these letters together."""
    told = []
    for row in rows:
        test.assertIs(type(row), str)
        test.assertEqual(len(row), width)
        told.extend(letters_in(row))
    test.assertEqual(len(told), len(set(told)), "not apart")
    test.assertEqual(set(told), set(letters))


def is_some_in_order(some, things):
    left = iter(things)
    return all(any(one == other for other in left) for one in some)


def plain_graph(letters, width):
    """The graph of point 9, by going through all letters."""
    nodes = []

    def number_of(signs):
        if len(signs) == width:
            return 1 if signs in letters else 0
        no = number_of(signs + "0")
        yes = number_of(signs + "1")
        if no == yes:
            return no
        node = (len(signs), no, yes)
        if node not in nodes:
            nodes.append(node)
        return nodes.index(node) + 2

    root = number_of("")
    return (root, nodes)


def moved_graph(graph, places):
    """The graph with its nodes' places led to these."""
    return (graph[0], [(places[place], no, yes) for place, no, yes in graph[1]])
