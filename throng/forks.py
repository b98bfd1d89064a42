"""Forks: which row of a heap is the first in which a letter lies, asked place by place.

A fork is a whole number, the answer, or a tuple (place, no, yes): the place at
which is asked, and the forks of letters with 0 and with 1 there. Of a letter
that lies in none of the rows the answer is how many rows there are.
"""

from throng.heaps import heap_places
from throng.rows import row_meet, row_narrowed, row_with


# The fork for the row's letters alone: nothing is asked that the row tells.
def fork_of(heap, row):
    # A last row with all letters gets those that lie in none of the heap's.
    rows = heap + ["-" * len(row)]
    met = [(mine, number) for number, mine in enumerate(rows) if row_meet(mine, row) is not None]
    places = [place for place in heap_places([mine for mine, number in met]) if row[place] == "-"]
    return fork_below(firsts_of([(row_narrowed(mine, places), number) for mine, number in met], len(places)), places)


# The first number counts for alike rows, and nothing counts behind a row of all
# letters: so such a row is always the last of the firsts.
def firsts_of(pairs, width):
    firsts = {}
    for signs, number in pairs:
        firsts.setdefault(signs, number)
        if signs == "-" * width:
            break
    return firsts


def fork_below(firsts, places):
    if len(firsts) == 1:
        return firsts["-" * len(places)]
    no_firsts = firsts_side(firsts, "0", len(places) - 1)
    yes_firsts = firsts_side(firsts, "1", len(places) - 1)
    no = fork_below(no_firsts, places[1:])
    # Nothing is asked where both sides are alike, so that the parts stay few.
    if no_firsts == yes_firsts:
        return no
    yes = fork_below(yes_firsts, places[1:])
    return no if no == yes else (places[0], no, yes)


def firsts_side(firsts, sign, width):
    return firsts_of([(signs[1:], number) for signs, number in firsts.items() if signs[0] in (sign, "-")], width)


# The row is parted into rows apart, each told with the answer that its letters
# have once the over is written on them.
def fork_parts(fork, row, over):
    if isinstance(fork, int):
        return [(row, fork)]
    place = fork[0]
    sign = row[place] if over[place] == "-" else over[place]
    if sign == "-":
        no_parts = fork_parts(fork[1], row_with(row, place, "0"), over)
        return no_parts + fork_parts(fork[2], row_with(row, place, "1"), over)
    return fork_parts(fork[1] if sign == "0" else fork[2], row, over)


def heap_shares(heap, row):
    return fork_parts(fork_of(heap, row), row, "-" * len(row))
