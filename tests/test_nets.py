"""Points 25 and 26: nets, their spots and lines, and what is refused in them."""

import itertools
import random
import re
import unittest

from tests.sets import OTHER_SIGNS, OTHER_THINGS, check_refused, deep_kinds, some_layout, some_net
from throng.nets import net_checked, net_house, net_open, net_spots, net_tied

# A net in lists alone, so that each part of it can be changed.
FIELDS = [["a", 1], ["b", 1], ["to", 2], ["c", 1]]
RULES = [["0----", "pass", "-----"], ["-1---", "drop", "--1--"]]
GATES = [["in", RULES], ["out", RULES], ["side", []]]
PLAIN = [
    FIELDS, [["hut", [GATES, [["", "in"], ["01", "out"]]]], ["inn", [GATES, [["1", "side"], ["", "out"]]]]],
    [[["hut", "in"], ["inn", "out"]], [["inn", "in"], ["inn", "side"]]],
]


def net_of(plain):
    """The net of point 25 from one in lists."""
    houses = []
    for name, (gates, ways) in plain[1]:
        gates = [(door, [tuple(rule) for rule in rules]) for door, rules in gates]
        houses.append((name, (gates, [tuple(way) for way in ways])))
    lines = [tuple(tuple(spot) for spot in line) for line in plain[2]]
    return ([tuple(field) for field in plain[0]], houses, lines)


def own_lists(thing):
    """A copy in which no list stands twice, as rules and gates do in PLAIN."""
    return [own_lists(part) for part in thing] if isinstance(thing, list) else thing


def changed(*changes):
    """The plain net with things at such paths replaced."""
    plain = own_lists(PLAIN)
    for path, thing in changes:
        inner = plain
        for index in path[:-1]:
            inner = inner[index]
        inner[path[-1]] = thing
    return net_of(plain)


def gate(house, number):
    return [1, house, 1, 0, number]


def rule(house, door, number):
    return gate(house, door) + [1, number]


def way(house, number):
    return [1, house, 1, 1, number]


# Each fault with where it is put and what, in the order of point 26.
FAULTS = [
    ("Misfit", [0, 0, 1], 0), ("Twice", [0, 1, 0], "a"), ("Misfit", [0, 1, 1], -1), ("Misfit", [0, 3, 1], 0),
    ("NoField", [0, 2, 0], "too"),
    ("Misfit", rule(0, 0, 0) + [0], "0---"), ("BadWord", rule(0, 0, 0) + [1], "Pass"),
    ("Misfit", rule(0, 0, 0) + [2], "------"), ("Misfit", rule(0, 0, 1) + [0], None),
    ("BadWord", rule(0, 0, 1) + [1], None), ("Misfit", rule(0, 0, 1) + [2], "----2"),
    ("Twice", gate(0, 1) + [0], "in"), ("Misfit", rule(0, 1, 0) + [0], 0), ("BadWord", rule(0, 1, 1) + [1], ""),
    ("Twice", gate(0, 2) + [0], "in"),
    ("Misfit", way(0, 0) + [0], "011"), ("NoDoor", way(0, 0) + [1], "none"), ("Twice", way(0, 1) + [0], ""),
    ("NoDoor", way(0, 1) + [1], "hut"),
    ("Twice", [1, 1, 0], "hut"), ("Misfit", rule(1, 0, 0) + [2], ["-"] * 5), ("Twice", gate(1, 1) + [0], "in"),
    ("BadWord", rule(1, 1, 0) + [1], True), ("NoDoor", way(1, 0) + [1], "none"), ("Misfit", way(1, 1) + [0], "-"),
    ("NoDoor", way(1, 1) + [1], ""),
    ("NoHouse", [2, 0, 0, 0], "none"), ("NoDoor", [2, 0, 0, 1], "none"), ("NoHouse", [2, 0, 1, 0], "in"),
    ("NoDoor", [2, 0, 1, 1], "hut"), ("Twice", [2, 1, 0], ["hut", "in"]), ("NoHouse", [2, 1, 1, 0], "none"),
    ("Twice", [2, 1, 1], ["hut", "in"]),
]


def is_fitting(thing, signs, least, most):
    return type(thing) is str and least <= len(thing) <= most and re.fullmatch("[" + signs + "]*", thing) is not None


def faults_of(net):
    """The names of all refusals that are due, in the order of point 26."""
    layout, houses, lines = net
    for number, (name, size) in enumerate(layout):
        if name in dict(layout[:number]):
            yield "Twice"
        if size < 1:
            yield "Misfit"
    sizes = dict(layout)
    if "to" not in sizes:
        yield "NoField"
    width = sum(size for name, size in layout)
    for number, (name, (gates, ways)) in enumerate(houses):
        if name in dict(houses[:number]):
            yield "Twice"
        yield from faults_of_gates(gates, width)
        for count, (beginning, door) in enumerate(ways):
            if not is_fitting(beginning, "01", 0, sizes["to"]):
                yield "Misfit"
            if beginning in [earlier for earlier, its in ways[:count]]:
                yield "Twice"
            if door not in dict(gates):
                yield "NoDoor"
    spots = [spot for line in lines for spot in line]
    for number, (name, door) in enumerate(spots):
        if name not in dict(houses):
            yield "NoHouse"
        elif door not in dict(dict(houses)[name][0]):
            yield "NoDoor"
        elif (name, door) in spots[:number]:
            yield "Twice"


def faults_of_gates(gates, width):
    for number, (door, rules) in enumerate(gates):
        if door in dict(gates[:number]):
            yield "Twice"
        for row, word, over in rules:
            if not is_fitting(row, "01-", width, width):
                yield "Misfit"
            if word not in ("pass", "drop"):
                yield "BadWord"
            if not is_fitting(over, "01-", width, width):
                yield "Misfit"


def lists_of(net):
    """The net in lists, so that parts of it can be changed."""
    layout, houses, lines = net
    return [
        [list(field) for field in layout],
        [[name, [[[door, [list(rule) for rule in rules]] for door, rules in gates], [list(way) for way in ways]]]
         for name, (gates, ways) in houses],
        [[list(spot) for spot in line] for line in lines],
    ]


def spoiled(chance, net):
    """The net with one thing in it changed, such as point 26 looks at."""
    plain = lists_of(net)
    layout, houses, lines = plain
    gates = [gate for name, house in houses for gate in house[0]]
    rules = [rule for gate in gates for rule in gate[1]]
    ways = [way for name, house in houses for way in house[1]]
    spots = [spot for line in lines for spot in line]
    names = [field[0] for field in layout] + [house[0] for house in houses] + [gate[0] for gate in gates]
    things = [None, 0, True, [], ("0",), "", "0", "01", "-" * 7, "0" * 49, "pass", "dropp", "pas", "x"]
    where, index, thing = chance.choice([
        (layout, 0, chance.choice(names)), (layout, 1, chance.choice([0, -1, 1, 2])),
        (houses, 0, chance.choice(names)), (gates, 0, chance.choice(names)),
        (rules, 0, chance.choice(things)), (rules, 1, chance.choice(things)), (rules, 2, chance.choice(things)),
        (ways, 0, chance.choice(things)), (ways, 1, chance.choice(names)),
        (spots, 0, chance.choice(names)), (spots, 1, chance.choice(names)),
    ])
    if where:
        chance.choice(where)[index] = thing
    return net_of(plain)


class Checked(unittest.TestCase):
    def check(self, net):
        due = next(faults_of(net), None)
        if due is None:
            self.assertIs(net_checked(net), True)
        else:
            check_refused(self, due, net_checked, net)

    def test_nothing_refused(self):
        self.assertIs(net_checked(changed()), True)
        chance = random.Random(26)
        for width in range(1, 7):
            for number in range(50):
                self.assertIs(net_checked(some_net(chance, some_layout(chance, width), range(width), 6)), True)

    def test_each_fault(self):
        for kind, path, thing in FAULTS:
            check_refused(self, kind, net_checked, changed((path, thing)))

    def test_first_of_two_faults(self):
        for one, other in itertools.combinations(FAULTS, 2):
            if other[1] != one[1][:len(other[1])]:
                check_refused(self, one[0], net_checked, changed(one[1:], other[1:]))

    def test_first_of_many_faults(self):
        for number, fault in enumerate(FAULTS):
            check_refused(self, fault[0], net_checked, changed(fault[1:], *[
                later[1:] for later in FAULTS[number + 1:] if later[1] != fault[1][:len(later[1])]]))

    def test_some_nets_with_faults(self):
        chance = random.Random(27)
        for width in range(1, 7):
            for number in range(150):
                net = some_net(chance, some_layout(chance, width), range(width), 4)
                for fault in range(chance.choice([1, 1, 2, 3, 5])):
                    net = spoiled(chance, net)
                self.check(net)

    def test_rows_and_overs_of_any_kind(self):
        things = OTHER_THINGS + OTHER_SIGNS + ["", "-", "-" * 4, "-" * 6, "0" * 48, "----\n", "-----\n", "\n----"]
        things += ["----" + sign for sign in OTHER_SIGNS] + [["0----"], ("0----",), ["0", "-", "-", "-", "-"]]
        for thing in things:
            for place in (0, 2):
                check_refused(self, "Misfit", net_checked, changed((rule(1, 0, 1) + [place], thing)))

    def test_words_of_any_kind(self):
        texts = ["", "PASS", "Drop", "pass ", " drop", "passdrop", "p", "dro", "drop\n", "all"]
        for thing in OTHER_THINGS + texts + [["pass"], ("drop",), ["pass", "drop"], ("pass", "drop")]:
            check_refused(self, "BadWord", net_checked, changed((rule(0, 1, 1) + [1], thing)))

    def test_beginnings_of_any_kind(self):
        for thing in OTHER_THINGS + OTHER_SIGNS + ["-", "0-", "011", "0" * 48, "0" * 49, "01\n", "0\n", " 0", "0 "]:
            check_refused(self, "Misfit", net_checked, changed((way(0, 0) + [0], thing)))
            check_refused(self, "Misfit", net_checked, changed((way(1, 1) + [0], thing)))
        for thing in ("0", "1", "00", "10", "11"):
            self.assertIs(net_checked(changed((way(0, 0) + [0], thing))), True)

    def test_words_and_rows_stand_alone(self):
        word = rule(0, 0, 0) + [1]
        for thing in ("pass", "drop"):
            self.assertIs(net_checked(changed((word, thing))), True)
        for row in ("00000", "-----", "1-0-1"):
            self.assertIs(net_checked(changed((rule(0, 0, 0) + [0], row), (rule(1, 1, 1) + [2], row))), True)


class CheckedByHand(unittest.TestCase):
    def test_no_fields(self):
        check_refused(self, "NoField", net_checked, ([], [], []))
        check_refused(self, "NoField", net_checked, ([], [("a", ([], [])), ("a", ([], []))], []))

    def test_field_to_at_any_place(self):
        for layout in itertools.permutations([("a", 1), ("to", 1), ("b", 46)]):
            self.assertIs(net_checked((list(layout), [], [])), True)
        self.assertIs(net_checked(([("to", 1)], [], [])), True)
        self.assertIs(net_checked(([("to", 48)], [], [])), True)
        check_refused(self, "NoField", net_checked, ([("a", 1), ("too", 1), ("t", 1)], [], []))

    def test_two_fields_to(self):
        check_refused(self, "Twice", net_checked, ([("to", 1), ("to", 1)], [], []))
        check_refused(self, "Misfit", net_checked, ([("to", 0), ("to", 0)], [], []))
        check_refused(self, "Twice", net_checked, ([("to", 1), ("to", 0)], [], []))
        check_refused(self, "Misfit", net_checked, ([("a", -48), ("b", 2)], [], []))

    def test_no_houses(self):
        self.assertIs(net_checked(([("to", 2)], [], [])), True)
        check_refused(self, "NoHouse", net_checked, ([("to", 2)], [], [(("a", "b"), ("c", "d"))]))

    def test_house_without_doors(self):
        self.assertIs(net_checked(([("to", 2)], [("a", ([], []))], [])), True)
        check_refused(self, "NoDoor", net_checked, ([("to", 2)], [("a", ([], [("", "b")]))], []))
        check_refused(self, "Misfit", net_checked, ([("to", 2)], [("a", ([], [("000", "b")]))], []))
        check_refused(self, "NoDoor", net_checked, ([("to", 2)], [("a", ([], []))], [(("a", "b"), ("a", "c"))]))

    def test_door_of_another_house(self):
        houses = [("a", ([("x", [])], [])), ("b", ([("y", [])], [("", "x")]))]
        check_refused(self, "NoDoor", net_checked, ([("to", 1)], houses, []))
        houses[1] = ("b", ([("y", [])], []))
        check_refused(self, "NoDoor", net_checked, ([("to", 1)], houses, [(("a", "x"), ("b", "x"))]))
        check_refused(self, "NoDoor", net_checked, ([("to", 1)], houses, [(("a", "y"), ("b", "x"))]))
        self.assertIs(net_checked(([("to", 1)], houses, [(("a", "x"), ("b", "y"))])), True)

    def test_names_that_are_alike_elsewhere(self):
        houses = [(name, ([("to", []), ("a", [])], [("", "a")])) for name in ("to", "a")]
        self.assertIs(net_checked(([("to", 1), ("a", 1)], houses, [(("to", "to"), ("a", "a"))])), True)

    def test_lines(self):
        houses = [("a", ([("x", []), ("y", []), ("z", [])], []))]
        layout = [("to", 1)]
        self.assertIs(net_checked((layout, houses, [(("a", "x"), ("a", "y"))])), True)
        check_refused(self, "Twice", net_checked, (layout, houses, [(("a", "x"), ("a", "x"))]))
        lines = [(("a", "x"), ("a", "y")), (("a", "z"), ("a", "y"))]
        check_refused(self, "Twice", net_checked, (layout, houses, lines))
        check_refused(self, "Twice", net_checked, (layout, houses, lines[::-1]))
        check_refused(self, "Twice", net_checked, (layout, houses, lines[:1] * 2))
        lines = [(("a", "x"), ("b", "x")), (("a", "w"), ("a", "x"))]
        check_refused(self, "NoHouse", net_checked, (layout, houses, lines))
        check_refused(self, "NoDoor", net_checked, (layout, houses, [(("a", "w"), ("b", "x"))]))
        check_refused(self, "NoHouse", net_checked, (layout, houses, [(("b", "w"), ("a", "w"))]))

    def test_three_hundred_rules_and_ways(self):
        rules = [("-" * 48, "pass", "-" * 48)] * 300
        ways = [(format(number, "09b"), "x") for number in range(300)]
        houses = [("a", ([("x", rules)], ways)), ("b", ([("x", list(rules))], list(ways)))]
        net = ([("to", 48)], houses, [(("a", "x"), ("b", "x"))])
        self.assertIs(net_checked(net), True)
        houses[1][1][0][0][1][299] = ("-" * 48, "pass", "-" * 47)
        check_refused(self, "Misfit", net_checked, net)
        houses[0][1][1][299] = ways[0]
        check_refused(self, "Twice", net_checked, net)

    def test_somewhat_beyond_the_bounds(self):
        names = [one + other for one in "abc" for other in "abcdefgh"]
        houses = [(name, ([(door, []) for door in names], [("0" * 50, name)])) for name in names]
        self.assertIs(net_checked(([("to", 50), ("from", 2)], houses, [])), True)


class Spots(unittest.TestCase):
    def check(self, net):
        layout, houses, lines = net
        spots = sorted((name, door) for name, house in houses for door, rules in house[0])
        tied = {one: other for line in lines for one, other in (line, line[::-1])}
        pair = (tuple, [str, str])
        told = net_spots(net)
        self.assertEqual(told, spots)
        self.assertEqual(deep_kinds(told), (list, [pair] * len(told)))
        told = net_open(net)
        self.assertEqual(told, [spot for spot in spots if spot not in tied])
        self.assertEqual(deep_kinds(told), (list, [pair] * len(told)))
        for name, door in spots:
            told = net_tied(net, name, door)
            self.assertEqual(told, tied.get((name, door)))
            self.assertEqual(deep_kinds(told), pair if (name, door) in tied else type(None))
            check_refused(self, "NoDoor", net_tied, net, name, "none")
        for name, house in houses:
            self.assertEqual(net_house(net, name), house)
            self.assertEqual(deep_kinds(net_house(net, name)), deep_kinds(house))
        for name in ("none", "", "i", "hu"):
            check_refused(self, "NoHouse", net_house, net, name)
            check_refused(self, "NoHouse", net_tied, net, name, "none")
            check_refused(self, "NoHouse", net_tied, net, name, "in")

    def test_some_nets(self):
        chance = random.Random(25)
        for width in range(1, 7):
            for number in range(60):
                self.check(some_net(chance, some_layout(chance, width), range(width), 8))
        for number in range(20):
            self.check(some_net(chance, some_layout(chance, 48), [0, 5, 47], 10))

    def test_by_hand(self):
        net = changed()
        self.assertEqual(net_spots(net), [("hut", "in"), ("hut", "out"), ("hut", "side"), ("inn", "in"), ("inn", "out"),
                                          ("inn", "side")])
        self.assertEqual(net_open(net), [("hut", "out"), ("hut", "side")])
        self.assertEqual(net_tied(net, "hut", "in"), ("inn", "out"))
        self.assertEqual(net_tied(net, "inn", "out"), ("hut", "in"))
        self.assertEqual(net_tied(net, "inn", "side"), ("inn", "in"))
        self.assertIsNone(net_tied(net, "hut", "side"))
        self.check(net)

    def test_sorted_by_house_and_then_by_door(self):
        houses = [("b", ([("a", [])], [])), ("a", ([("z", []), ("b", []), ("ab", [])], [])), ("ab", ([("a", [])], []))]
        net = ([("to", 1)], houses, [])
        spots = [("a", "ab"), ("a", "b"), ("a", "z"), ("ab", "a"), ("b", "a")]
        self.assertEqual(net_spots(net), spots)
        self.assertEqual(net_open(net), spots)
        tied = ([("to", 1)], houses, [(("ab", "a"), ("a", "b"))])
        self.assertEqual(net_open(tied), [("a", "ab"), ("a", "z"), ("b", "a")])
        self.check(tied)

    def test_no_houses_and_no_doors(self):
        for houses in ([], [("hut", ([], []))]):
            net = ([("to", 1)], houses, [])
            self.assertEqual(net_spots(net), [])
            self.assertEqual(net_open(net), [])
            self.check(net)
        check_refused(self, "NoDoor", net_tied, net, "hut", "in")
        self.assertEqual(net_house(net, "hut"), ([], []))

    def test_no_spot_is_open(self):
        net = ([("to", 1)], [("a", ([("x", []), ("y", [])], []))], [(("a", "y"), ("a", "x"))])
        self.assertEqual(net_open(net), [])
        self.check(net)
