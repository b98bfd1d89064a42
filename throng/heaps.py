"""Heaps: lists of rows of as many signs, perhaps alike or overlapping ones.

Sets are reckoned with place by place. Only the places that some row tells
count, so heaps are narrowed to these first and what comes of it is spread
over all places again.
"""

from throng.rows import row_holds, row_least, row_narrowed, row_size, row_spread


def heap_has(heap, letter):
    for row in heap:
        if row_holds(row, letter):
            return True
    return False


def heap_apart(heap):
    return heap_less(heap, [])


def heap_meet(one, other):
    return [row for row, in_one, in_other in heap_split(one, other) if in_one and in_other]


def heap_less(one, other):
    return [row for row, in_one, in_other in heap_split(one, other) if in_one and not in_other]


def heap_size(heap):
    return sum([row_size(row) for row in heap_apart(heap)])


def heap_missing(one, other):
    return first_letter(heap_less(one, other))


def heap_parted(one, other):
    return first_letter([row for row, in_one, in_other in heap_split(one, other) if in_one != in_other])


def first_letter(rows):
    return None if rows == [] else row_least(rows[0])


# All letters are split into rows apart, each told with whether they lie in the
# one heap and in the other: so one walk answers whatever is asked of two heaps.
def heap_split(one, other):
    both = one + other
    width = heap_width(both)
    places = heap_places(both)
    parts = split_below(heap_narrowed(one, places), heap_narrowed(other, places), len(places))
    return [(row_spread(signs, places, width), in_one, in_other) for signs, in_one, in_other in parts]


def split_below(one, other, left):
    if is_settled(one, left) and is_settled(other, left):
        return [("-" * left, one != [], other != [])]
    no = split_below(heap_side(one, "0"), heap_side(other, "0"), left - 1)
    yes = split_below(heap_side(one, "1"), heap_side(other, "1"), left - 1)
    # Halves that are alike are told as one, so that the rows stay few.
    if no == yes:
        return split_begun("-", no)
    return split_begun("0", no) + split_begun("1", yes)


def split_begun(sign, parts):
    return [(sign + signs, in_one, in_other) for signs, in_one, in_other in parts]


def is_settled(heap, width):
    return heap == [] or "-" * width in heap


def heap_width(heap):
    return 0 if heap == [] else len(heap[0])


def heap_places(heap):
    places = []
    for place in range(heap_width(heap)):
        if any([row[place] != "-" for row in heap]):
            places.append(place)
    return places


# Alike rows are kept once here and in heap_side, for few places leave few rows.
def heap_narrowed(heap, places):
    return sorted(set([row_narrowed(row, places) for row in heap]))


# Once a sign is chosen at the first place, only what is behind it counts.
def heap_side(heap, sign):
    return sorted(set([row[1:] for row in heap if row[0] == sign or row[0] == "-"]))
