"""Points 21 to 24: houses, held against all letters, one by one."""

import itertools
import random
import unittest

from tests.sets import all_letters, all_rows, check_apart, check_refused, deep_kinds, filled, letters_in, letters_of
from tests.sets import moved_graph, narrow, plain_does, plain_graph, some_heaps, some_house, some_layout, some_places
from tests.sets import some_signs, spread, written
from throng.graphs import graph_of
from throng.houses import house_back, house_does, house_shares

LAYOUT = [("a", 1), ("to", 2), ("b", 1)]
HOUSE = (
    [
        ("in", [("0---", "pass", "----"), ("-1--", "drop", "----"), ("--1-", "pass", "-01-")]),
        ("out", [("----", "pass", "1---")]), ("shut", []),
    ],
    [("0", "out"), ("01", "in"), ("11", "shut")],
)
WHAT_KINDS = {
    "drop": (tuple, [str, int]), "lost": (tuple, [str]), "sent": (tuple, [str, str, str]),
}


class Houses(unittest.TestCase):
    def check_does(self, layout, house, letters):
        for door, rules in house[0]:
            for letter in letters:
                told = house_does(layout, house, door, letter)
                self.assertEqual(told, plain_does(layout, house, door, letter), (layout, house, door, letter))
                self.assertEqual(deep_kinds(told), WHAT_KINDS[told[0]])

    def check_what(self, letter, does, what):
        self.assertEqual(deep_kinds(what), WHAT_KINDS[does[0]])
        if does[0] == "sent":
            self.assertEqual(what[:2], does[:2])
            self.assertEqual(set(what[2]) - set("01-"), set())
            self.assertEqual(len(what[2]), len(letter))
            self.assertEqual(written(letter, what[2]), does[2])
        else:
            self.assertEqual(what, does)

    def check_shares(self, layout, house, door, row):
        shares = house_shares(layout, house, door, row)
        self.assertIs(type(shares), list)
        for share in shares:
            self.assertIs(type(share), tuple)
        for part, what in shares:
            for letter in letters_in(part):
                self.check_what(letter, plain_does(layout, house, door, letter), what)
        check_apart(self, [part for part, what in shares], len(row), letters_in(row))

    def check_back(self, layout, house, door, out, letters, width):
        """Letters is the set of those that lie in the graph."""
        back = set()
        for letter in all_letters(width):
            does = plain_does(layout, house, door, letter)
            if does[:2] == ("sent", out) and does[2] in letters:
                back.add(letter)
        told = house_back(layout, house, door, out, plain_graph(letters, width))
        self.assertEqual(told, plain_graph(back, width), (layout, house, door, out))
        self.assertEqual(deep_kinds(told), (tuple, [int, (list, [(tuple, [int] * 3)] * len(told[1]))]))

    def check_all(self, layout, house, heaps):
        width = sum(size for name, size in layout)
        self.check_does(layout, house, all_letters(width))
        doors = [door for door, rules in house[0]]
        for door in doors:
            self.check_shares(layout, house, door, "-" * width)
            for out in doors + ["none"]:
                for heap in heaps:
                    self.check_back(layout, house, door, out, letters_of(heap), width)


class SmallHouses(Houses):
    def test_each_house_of_one_place(self):
        layout = [("to", 1)]
        rules = [(row, word, over) for row in "01-" for word in ("pass", "drop") for over in "01-"]
        for some in [[]] + [[rule] for rule in rules]:
            for doors in itertools.product([None, "a", "b"], repeat=3):
                ways = [(beginning, door) for beginning, door in zip(["", "0", "1"], doors) if door]
                self.check_all(layout, ([("a", some), ("b", [])], ways), [["-"], ["1"]])

    def test_some_houses(self):
        for width in range(1, 7):
            chance = random.Random(width)
            for number in range(40):
                layout = some_layout(chance, width)
                doors = chance.sample(["a", "b", "in", "out"], chance.randint(0, 3))
                overs = chance.sample(range(width), chance.randint(0, min(5, width)))
                house = some_house(chance, layout, range(width), overs, doors)
                self.check_all(layout, house, some_heaps(number, width, 2, 5) + [["-" * width], []])

    def test_shares_of_each_row(self):
        chance = random.Random(23)
        for width in (1, 2, 3):
            for number in range(25):
                layout = some_layout(chance, width)
                house = some_house(chance, layout, range(width), range(width), ["a", "b"])
                for row in all_rows(width):
                    self.check_shares(layout, house, "a", row)

    def test_shares_of_some_rows(self):
        chance = random.Random(24)
        for width in (4, 5, 6):
            for number in range(80):
                layout = some_layout(chance, width)
                house = some_house(chance, layout, range(width), range(4), ["a", "b"])
                self.check_shares(layout, house, "a", some_signs(chance, width, range(width), "01---"))

    def test_field_to_at_each_place_of_the_layout(self):
        chance = random.Random(25)
        fields = [("a", 1), ("to", 2), ("b", 2)]
        for layout in itertools.permutations(fields):
            for number in range(10):
                house = some_house(chance, list(layout), range(5), range(5), ["a", "b"])
                self.check_all(list(layout), house, [["0-1--", "-1--0"]])


class HousesByHand(Houses):
    def test_does(self):
        told = {
            "0001": ("sent", "out", "0001"), "0010": ("sent", "in", "0010"), "0100": ("lost",),
            "0111": ("sent", "shut", "0111"), "1100": ("drop", 1), "1111": ("drop", 1), "1010": ("sent", "in", "1010"),
            "1000": ("drop", 3), "1001": ("drop", 3),
        }
        for letter, does in told.items():
            self.assertEqual(house_does(LAYOUT, HOUSE, "in", letter), does)

    def test_all_of_it(self):
        self.check_all(LAYOUT, HOUSE, [["----"], ["0---", "--1-"], ["1-1-"], []])

    def test_no_rule_counts(self):
        self.assertEqual(house_does(LAYOUT, HOUSE, "shut", "0000"), ("drop", 0))
        self.assertEqual(house_does(LAYOUT, HOUSE, "in", "1000"), ("drop", 3))
        self.check_shares(LAYOUT, HOUSE, "shut", "-0-1")

    def test_over_is_written_ahead_of_the_ways(self):
        house = ([("in", [("--", "pass", "1-")]), ("out", [])], [("0", "in"), ("1", "out")])
        self.assertEqual(house_does([("to", 2)], house, "in", "00"), ("sent", "out", "10"))
        self.check_all([("to", 2)], house, [["--"], ["10"], ["0-"]])

    def test_over_of_a_rule_that_drops_is_not_written(self):
        house = ([("in", [("0-", "drop", "1-"), ("--", "pass", "--")])], [("", "in")])
        self.assertEqual(house_does([("to", 2)], house, "in", "00"), ("drop", 0))
        self.check_all([("to", 2)], house, [["--"]])

    def test_sent_out_by_the_door_by_which_it_came_in(self):
        house = ([("in", [("-", "pass", "-")])], [("", "in")])
        self.assertEqual(house_does([("to", 1)], house, "in", "1"), ("sent", "in", "1"))
        self.assertEqual(house_shares([("to", 1)], house, "in", "1"), [("1", ("sent", "in", "-"))])
        self.assertEqual(house_back([("to", 1)], house, "in", "in", (2, [(0, 0, 1)])), (2, [(0, 0, 1)]))

    def test_no_ways(self):
        house = ([("in", [("1-", "pass", "0-")]), ("out", [])], [])
        self.assertEqual(house_does([("a", 1), ("to", 1)], house, "in", "10"), ("lost",))
        self.assertEqual(house_does([("a", 1), ("to", 1)], house, "in", "00"), ("drop", 1))
        self.check_all([("a", 1), ("to", 1)], house, [["--"]])
        for out in ("in", "out", "none"):
            self.assertEqual(house_back([("a", 1), ("to", 1)], house, "in", out, (1, [])), (0, []))

    def test_first_of_two_rules_that_pass(self):
        house = ([("in", [("0-", "pass", "-0"), ("--", "pass", "-1")])], [("", "in")])
        self.assertEqual(house_does([("to", 2)], house, "in", "01"), ("sent", "in", "00"))
        self.assertEqual(house_does([("to", 2)], house, "in", "10"), ("sent", "in", "11"))
        self.check_all([("to", 2)], house, [["0-"], ["-1"]])

    def test_way_as_long_as_the_field(self):
        layout = [("a", 2), ("to", 2), ("b", 2)]
        house = ([("in", [("------", "pass", "------")]), ("out", [])], [("10", "out"), ("1", "in")])
        self.assertEqual(house_does(layout, house, "in", "001000"), ("sent", "out", "001000"))
        self.assertEqual(house_does(layout, house, "in", "001100"), ("sent", "in", "001100"))
        self.assertEqual(house_does(layout, house, "in", "110011"), ("lost",))
        self.check_all(layout, house, [["------"], ["-0-1--"]])

    def test_back_to_a_place_that_is_written(self):
        house = ([("in", [("--", "pass", "1-")])], [("", "in")])
        self.assertEqual(house_back([("to", 2)], house, "in", "in", graph_of(["11"])), graph_of(["-1"]))
        self.assertEqual(house_back([("to", 2)], house, "in", "in", graph_of(["0-"])), (0, []))
        self.assertEqual(house_back([("to", 2)], house, "in", "in", graph_of(["1-"])), (1, []))

    def test_out_door_that_is_none_of_the_house(self):
        for out in ("none", "i", "inn", "to", "a"):
            self.assertEqual(house_back(LAYOUT, HOUSE, "in", out, (1, [])), (0, []))

    def test_refused_door(self):
        for door in ("none", "i", "inn", "to", "a", "0"):
            check_refused(self, "NoDoor", house_does, LAYOUT, HOUSE, door, "0000")
            check_refused(self, "NoDoor", house_shares, LAYOUT, HOUSE, door, "----")
            check_refused(self, "NoDoor", house_back, LAYOUT, HOUSE, door, "in", (1, []))
            check_refused(self, "NoDoor", house_back, LAYOUT, HOUSE, door, door, (0, []))

    def test_house_without_doors(self):
        check_refused(self, "NoDoor", house_does, LAYOUT, ([], []), "in", "0000")
        check_refused(self, "NoDoor", house_shares, LAYOUT, ([], []), "in", "----")
        check_refused(self, "NoDoor", house_back, LAYOUT, ([], []), "in", "in", (1, []))


class WideHouses(Houses):
    """Houses of up to 48 places that tell at most twelve of them."""

    def drawn(self, chance, width, count):
        layout = some_layout(chance, width)
        places = some_places(chance, layout, count)
        overs = chance.sample(places, chance.randint(0, min(5, count)))
        return layout, places, some_house(chance, layout, places, overs, ["in", "out", "side"])

    def check_wide(self, chance, layout, places, house, row):
        choices = all_letters(len(places))
        letters = [filled(chance, spread([choice], places, len(row))[0]) for choice in choices]
        for door, rules in house[0]:
            does = {letter: plain_does(layout, house, door, letter) for letter in letters}
            for letter in letters:
                self.assertEqual(house_does(layout, house, door, letter), does[letter])
            self.check_wide_shares(house_shares(layout, house, door, row), places, row, does)
            graph = plain_graph(set(chance.sample(choices, len(choices) // 2)), len(places))
            for out in ("in", "side", "none"):
                told = house_back(layout, house, door, out, moved_graph(graph, places))
                self.check_wide_back(told, places, out, graph, does)

    def check_wide_shares(self, shares, places, row, does):
        for part, what in shares:
            self.assertEqual([part[place] for place in range(len(row)) if place not in places],
                             ["-"] * (len(row) - len(places)))
        parts = dict((narrow(part, places), what) for part, what in shares)
        self.assertEqual(len(parts), len(shares))
        check_apart(self, list(parts), len(places), letters_in(narrow(row, places)))
        of_choice = {choice: what for part, what in parts.items() for choice in letters_in(part)}
        for letter in does:
            if narrow(letter, places) in of_choice:
                self.check_what(letter, does[letter], of_choice[narrow(letter, places)])

    def check_wide_back(self, told, places, out, graph, does):
        back = {narrow(letter, places) for letter in does
                if does[letter][:2] == ("sent", out) and self.lies_in_graph(graph, narrow(does[letter][2], places))}
        self.assertEqual(told, moved_graph(plain_graph(back, len(places)), places))

    def lies_in_graph(self, graph, letter):
        number = graph[0]
        while number > 1:
            place, no, yes = graph[1][number - 2]
            number = yes if letter[place] == "1" else no
        return number == 1

    def test_some_houses(self):
        chance = random.Random(48)
        for width in (7, 13, 24, 47, 48):
            for count in (1, 3, 6):
                for number in range(4):
                    layout, places, house = self.drawn(chance, width, count)
                    self.check_wide(chance, layout, places, house, "-" * width)
                    self.check_wide(chance, layout, places, house, some_signs(chance, width, places, "01---"))

    def test_twelve_places(self):
        chance = random.Random(12)
        layout, places, house = self.drawn(chance, 48, 12)
        self.check_wide(chance, layout, places, house, "-" * 48)

    def test_three_hundred_rules_and_ways(self):
        chance = random.Random(300)
        layout = [("a", 20), ("to", 20), ("b", 8)]
        places = [0, 7, 19] + list(range(20, 28)) + [47]
        rules = [(some_signs(chance, 48, places, "01-"), chance.choice(["pass", "pass", "drop"]),
                  some_signs(chance, 48, [0, 7, 20, 21, 47], "01--")) for number in range(300)]
        ways = [(beginning, chance.choice(["in", "out"])) for size in range(9) for beginning in all_letters(size)]
        self.check_wide(chance, layout, places, ([("in", rules), ("out", [])], chance.sample(ways, 300)), "-" * 48)

    def test_letters_with_all_places_told(self):
        chance = random.Random(22)
        for layout in ([("to", 48)], [("a", 10), ("to", 30), ("b", 8)], [("a", 47), ("to", 1)]):
            size = dict(layout)["to"]
            rules = [(some_signs(chance, 48, range(48), "01---"), chance.choice(["pass", "drop"]),
                      some_signs(chance, 48, range(48), "01-")) for number in range(150)]
            beginnings = {"".join(chance.choice("01") for sign in range(chance.randint(0, size))) for way in range(150)}
            sent = [written(row, over).replace("-", "0") for row, word, over in rules]
            first = size if layout == [("to", 48)] else 0
            beginnings |= {letter[:first] for letter in sent[:50]}
            ways = [(beginning, chance.choice(["in", "out"])) for beginning in sorted(beginnings)]
            house = ([("in", rules), ("out", [])], ways)
            self.check_does(layout, house, [filled(chance, row) for row, word, over in rules])
            self.check_does(layout, house, [row.replace("-", "0") for row, word, over in rules])
