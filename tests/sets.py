"""What the tests hold the program against: letters one by one, told without the program."""

import itertools
import random

# Twelve places of 48, the first and the last among them.
PLACES = [0, 3, 4, 11, 12, 20, 23, 30, 31, 40, 46, 47]


def all_letters(width):
    return ["".join(signs) for signs in itertools.product("01", repeat=width)]


def all_rows(width):
    return ["".join(signs) for signs in itertools.product("01-", repeat=width)]


def letters_in(row):
    choices = {"0": "0", "1": "1", "-": "01"}
    return {"".join(signs) for signs in itertools.product(*[choices[sign] for sign in row])}


def letters_of(heap):
    return set().union(*[letters_in(row) for row in heap])


def all_heaps(width, most):
    """Every heap of at most so many rows, those with alike rows too."""
    rows = all_rows(width)
    for count in range(most + 1):
        for heap in itertools.product(rows, repeat=count):
            yield list(heap)


def some_heaps(seed, width, count, most):
    """So many heaps of 0 to most rows, the same ones for the same seed."""
    chance = random.Random(seed)
    signs = ["01-", "01--", "01------"]
    heaps = []
    for number in range(count):
        drawn = chance.choice(signs)
        size = chance.randint(0, most)
        heaps.append(["".join(chance.choice(drawn) for place in range(width)) for row in range(size)])
    return heaps


def spread(heap, places, width):
    """The heap with its signs at these places of so many, and - elsewhere."""
    wide = []
    for row in heap:
        signs = ["-"] * width
        for sign, place in zip(row, places):
            signs[place] = sign
        wide.append("".join(signs))
    return wide


def narrow(row, places):
    return "".join(row[place] for place in places)


def deep_kinds(thing):
    """The kinds of a thing and of all in it, exact, so that a truth is no int."""
    if type(thing) in (list, tuple):
        return (type(thing), [deep_kinds(part) for part in thing])
    return type(thing)
