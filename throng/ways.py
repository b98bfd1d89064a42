"""Ways: signs go by the longest beginning that they have."""

from throng.errors import Misfit, NoWay, Twice
from throng.forks import heap_shares
from throng.rows import is_letter

LONGEST = 48


def way_found(ways, signs):
    longest = -1
    found = None
    for beginning, door in ways:
        if len(beginning) > longest and signs.startswith(beginning):
            longest = len(beginning)
            found = door
    return found


# With the longest ones ahead the first way with which signs begin counts.
def longest_first(ways):
    return sorted(ways, key=lambda way: len(way[0]), reverse=True)


def way_row(way, size):
    return way[0] + "-" * (size - len(way[0]))


def door_at(ways, number):
    return None if number == len(ways) else ways[number][1]


def way_rows(ways, size):
    ordered = longest_first(ways)
    shares = heap_shares([way_row(way, size) for way in ordered], "-" * size)
    return [(row, door_at(ordered, number)) for row, number in shares]


def ways_thinned(ways, size):
    kept = longest_first(ways)
    # From the shortest on what a way is needed against is settled, and to strike
    # a longer one takes no signs from it: so one walk will do.
    for number in range(len(ways) - 1, -1, -1):
        if not is_way_needed(kept, number, size):
            kept.pop(number)
    return [way for way in ways if way in kept]


def is_way_needed(ordered, number, size):
    way = ordered[number]
    others = ordered[:number] + ordered[number + 1:]
    rows = [way_row(another, size) for another in others]
    for row, first in heap_shares(rows, way_row(way, size)):
        # Signs that have a way ahead don't go by this one.
        if first >= number and door_at(others, first) != way[1]:
            return True
    return False


def is_beginning(thing, longest):
    return isinstance(thing, str) and len(thing) <= longest and is_letter(thing, len(thing))


class Tree:
    def __init__(self):
        self.doors = {}

    def put_way(self, beginning, door):
        if not is_beginning(beginning, LONGEST):
            raise Misfit(f"no beginning: {beginning!r}")
        if beginning in self.doors:
            raise Twice(f"a way with {beginning!r} is there")
        self.doors[beginning] = door

    def strike_way(self, beginning):
        if beginning not in self.doors:
            raise NoWay(f"no way with {beginning!r}")
        self.doors.pop(beginning)

    def way_at(self, signs):
        return way_found(list(self.doors.items()), signs)

    def told_ways(self):
        return self.ways_below("")

    def ways_below(self, signs):
        return sorted([(beginning, door) for beginning, door in self.doors.items() if beginning.startswith(signs)])
