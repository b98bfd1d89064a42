"""Nets: a layout, houses with names, and lines that tie spots to one another."""

from throng.errors import BadWord, Misfit, NoField, NoHouse, Twice
from throng.fields import field_span, layout_width
from throng.houses import gate_rules
from throng.rows import is_row
from throng.ways import is_beginning

WORDS = ("pass", "drop")


def net_checked(net):
    check_layout(net[0])
    check_houses(net[0], net[1])
    check_lines(net)
    return True


def check_new(thing, earlier):
    if thing in earlier:
        raise Twice(f"{thing!r} stands ahead")


def check_layout(layout):
    names = []
    for name, size in layout:
        check_new(name, names)
        if size < 1:
            raise Misfit(f"field {name!r} has no place")
        names.append(name)
    if "to" not in names:
        raise NoField("no field 'to'")


def check_houses(layout, houses):
    names = []
    for name, house in houses:
        check_new(name, names)
        check_gates(layout, house)
        check_ways(layout, house)
        names.append(name)


def check_gates(layout, house):
    doors = []
    for door, rules in house[0]:
        check_new(door, doors)
        for row, word, over in rules:
            check_rule(layout, row, word, over)
        doors.append(door)


def check_rule(layout, row, word, over):
    width = layout_width(layout)
    if not is_row(row, width):
        raise Misfit(f"no row of letters: {row!r}")
    if word not in WORDS:
        raise BadWord(f"no word of a rule: {word!r}")
    if not is_row(over, width):
        raise Misfit(f"no over of letters: {over!r}")


def check_ways(layout, house):
    beginnings = []
    for beginning, door in house[1]:
        check_way(layout, house, beginning, door, beginnings)
        beginnings.append(beginning)


def check_way(layout, house, beginning, door, beginnings):
    span = field_span(layout, "to")
    if not is_beginning(beginning, span[1] - span[0]):
        raise Misfit(f"no beginning of the field 'to': {beginning!r}")
    check_new(beginning, beginnings)
    # Refuses a door that the house has not.
    gate_rules(house, door)


def check_lines(net):
    tied = []
    for line in net[2]:
        for spot in line:
            check_spot(net, spot[0], spot[1])
            check_new(spot, tied)
            tied.append(spot)


# Refuses a house that the net has not, then a door that the house has not.
def check_spot(net, house, door):
    gate_rules(house_named(net, house), door)


def house_named(net, name):
    for its, house in net[1]:
        if its == name:
            return house
    raise NoHouse(f"no house {name!r}")


# What is told or kept has lists of its own, down to those of the rules.
def net_copied(net):
    return (list(net[0]), [(name, house_copied(house)) for name, house in net[1]], list(net[2]))


def house_copied(house):
    return ([(door, list(rules)) for door, rules in house[0]], list(house[1]))


def net_house(net, name):
    return house_copied(house_named(net, name))


# The net with another house of that name, or with other rules at a door, and all
# else as it is.
def net_with_house(net, name, house):
    return (net[0], [(its, house if its == name else other) for its, other in net[1]], net[2])


def net_with_rules(net, name, door, rules):
    house = house_named(net, name)
    gates = [(its, rules if its == door else others) for its, others in house[0]]
    return net_with_house(net, name, (gates, house[1]))


def net_spots(net):
    spots = []
    for name, house in net[1]:
        spots.extend([(name, door) for door, rules in house[0]])
    return sorted(spots)


def net_open(net):
    ends = line_ends(net)
    return [spot for spot in net_spots(net) if spot not in ends]


def net_tied(net, house, door):
    check_spot(net, house, door)
    return line_ends(net).get((house, door))


# For each spot that stands in a line the one at the other end.
def line_ends(net):
    ends = {}
    for one, other in net[2]:
        ends[one] = other
        ends[other] = one
    return ends
