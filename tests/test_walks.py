"""Points 27 to 29: the walk of one letter, held against one reckoned by the document's words."""

import itertools
import random
import unittest

from tests.sets import END_KINDS, OTHER_SIGNS, OTHER_THINGS, PASS, TO, all_letters, check_refused, counting
from tests.sets import deep_kinds, fared, filled, passing, plain_walk, ring_of, some_layout, some_net, some_places
from tests.sets import some_signs, spread
from throng.walks import net_fared, net_walk


class Walks(unittest.TestCase):
    def check(self, net, house, door, letter):
        told = net_walk(net, house, door, letter)
        trail, end = plain_walk(net, house, door, letter)
        self.assertEqual(told, (trail, end), (net, house, door, letter))
        steps = (list, [(tuple, [str, str, str])] * len(trail))
        self.assertEqual(deep_kinds(told), (tuple, [steps, (tuple, END_KINDS[end[0]])]))
        told = net_fared(net, house, door, letter)
        self.assertEqual(told, fared(end))
        self.assertEqual(deep_kinds(told), (tuple, [str] * len(told)))
        return end

    def check_spots(self, net, letters):
        ends = []
        for name, house in net[1]:
            for door, rules in house[0]:
                ends.extend(self.check(net, name, door, letter)[0] for letter in letters)
        return ends


class SmallNets(Walks):
    def test_each_net_of_one_house(self):
        rules = [[(row, word, over)] for row in "0-" for word in ("pass", "drop") for over in "01-"]
        for some, doors in itertools.product([[]] + rules, itertools.product([None, "a", "b"], repeat=2)):
            ways = [(beginning, door) for beginning, door in zip(["", "1"], doors) if door]
            for others in ([], [("-", "pass", "-")], [("-", "pass", "0")]):
                for lines in ([], [(("h", "a"), ("h", "b"))]):
                    self.check_spots(([("to", 1)], [("h", ([("a", some), ("b", others)], ways))], lines), ["0", "1"])

    def test_some_nets(self):
        ends = []
        for width in range(1, 7):
            chance = random.Random(width)
            for number in range(60):
                net = some_net(chance, some_layout(chance, width), range(width), 5)
                ends.extend(self.check_spots(net, all_letters(width)))
        for kind in END_KINDS:
            self.assertGreater(ends.count(kind), 500)

    def test_many_houses(self):
        chance = random.Random(10)
        for number in range(40):
            net = some_net(chance, some_layout(chance, 4), range(4), 10)
            self.check_spots(net, all_letters(4))


class WideNets(Walks):
    def test_some_nets(self):
        chance = random.Random(47)
        for width in (7, 13, 30, 48):
            for number in range(12):
                layout = some_layout(chance, width)
                places = some_places(chance, layout, 5)
                net = some_net(chance, layout, places, 6)
                choices = spread(all_letters(len(places)), places, width)
                self.check_spots(net, [filled(chance, row) for row in choices])

    def test_all_places_told(self):
        chance = random.Random(48)
        for number in range(6):
            layout = some_layout(chance, 48)
            net = some_net(chance, layout, range(48), 6)
            rows = [rule[0] for name, house in net[1] for door, rules in house[0] for rule in rules]
            self.check_spots(net, [filled(chance, row) for row in rows + ["-" * 48] * 3])

    def test_three_hundred_rules(self):
        chance = random.Random(300)
        rules = [(some_signs(chance, 48, range(48), "01-----------"), chance.choice(["pass", "pass", "drop"]),
                  some_signs(chance, 48, [0, 9, 20, 33, 47], "01-")) for number in range(300)]
        houses = [(name, ([("in", rules), ("out", rules[::-1])], [("", "out"), ("1", "in")])) for name in ("a", "b")]
        for layout in ([("to", 48)], [("a", 47), ("to", 1)]):
            net = (layout, houses, [(("a", "in"), ("b", "out")), (("a", "out"), ("b", "in"))])
            self.check_spots(net, [filled(chance, rule[0]) for rule in rules[::10]])


class WalksByHand(Walks):
    def test_out(self):
        net = (TO, [("a", passing("out")), ("b", passing("out"))], [(("a", "out"), ("b", "in"))])
        self.assertEqual(net_walk(net, "a", "in", "01"),
                         ([("a", "in", "01"), ("b", "in", "01")], ("out", "b", "out", "01")))
        self.assertEqual(net_fared(net, "a", "in", "01"), ("out", "b", "out", "01"))
        self.check_spots(net, all_letters(2))

    def test_no_lines(self):
        net = (TO, [("a", passing("out"))], [])
        self.assertEqual(net_walk(net, "a", "in", "10"), ([("a", "in", "10")], ("out", "a", "out", "10")))
        self.check_spots(net, all_letters(2))

    def test_line_goes_both_ways(self):
        for lines in ([(("a", "out"), ("b", "in"))], [(("b", "in"), ("a", "out"))]):
            net = (TO, [("a", passing("out")), ("b", passing("out"))], lines)
            self.assertEqual(net_walk(net, "a", "in", "00")[1], ("out", "b", "out", "00"))
            net = (TO, [("a", passing("in")), ("b", passing("in"))], lines)
            self.assertEqual(net_walk(net, "b", "out", "00")[1], ("out", "a", "in", "00"))

    def test_dropped_and_lost_are_told_with_the_door_by_which_they_came_in(self):
        shut = ([("in", [("0-", "drop", "11")]), ("out", [])], [("", "out")])
        net = (TO, [("a", passing("out")), ("b", shut)], [(("a", "out"), ("b", "in"))])
        self.assertEqual(net_walk(net, "a", "in", "00")[1], ("drop", "b", "in", 0))
        self.assertEqual(net_walk(net, "a", "in", "10")[1], ("drop", "b", "in", 1))
        self.assertEqual(net_walk(net, "b", "out", "10")[1], ("drop", "b", "out", 0))
        self.assertEqual(net_fared(net, "a", "in", "00"), ("lost",))
        lost = ([("in", [("--", "pass", "-1")]), ("out", [])], [("0", "out")])
        net = (TO, [("a", passing("out")), ("b", lost)], [(("a", "out"), ("b", "in"))])
        self.assertEqual(net_walk(net, "a", "in", "00"),
                         ([("a", "in", "00"), ("b", "in", "00")], ("lost", "b", "in")))
        self.assertEqual(net_fared(net, "a", "in", "00"), ("lost",))

    def test_laid_in_at_a_spot_that_is_not_open(self):
        net = (TO, [("a", passing("out")), ("b", passing("out"))], [(("a", "out"), ("b", "in"))])
        self.assertEqual(net_walk(net, "b", "in", "11"), ([("b", "in", "11")], ("out", "b", "out", "11")))
        self.assertEqual(net_walk(net, "a", "out", "11"),
                         ([("a", "out", "11"), ("b", "in", "11")], ("out", "b", "out", "11")))

    def test_sent_out_by_the_door_by_which_it_came_in(self):
        net = (TO, [("a", passing("in"))], [])
        self.assertEqual(net_walk(net, "a", "in", "01"), ([("a", "in", "01")], ("out", "a", "in", "01")))
        net = (TO, [("a", passing("in")), ("b", passing("out"))], [(("a", "in"), ("b", "in"))])
        self.assertEqual(net_walk(net, "a", "in", "01"),
                         ([("a", "in", "01"), ("b", "in", "01")], ("out", "b", "out", "01")))
        net = (TO, [("a", passing("in")), ("b", passing("in"))], [(("a", "in"), ("b", "in"))])
        self.assertEqual(net_walk(net, "b", "in", "01"), ([("b", "in", "01"), ("a", "in", "01")], ("ring", "a")))

    def test_signs_written_on_the_way(self):
        one = ([("in", [("--", "pass", "1-")]), ("out", [])], [("", "out")])
        other = ([("in", [("1-", "pass", "-0")]), ("out", [])], [("", "out")])
        net = (TO, [("b", other), ("a", one)], [(("a", "out"), ("b", "in"))])
        self.assertEqual(net_walk(net, "a", "in", "01"),
                         ([("a", "in", "01"), ("b", "in", "11")], ("out", "b", "out", "10")))

    def test_ring_of_one_house(self):
        net = ring_of(["a"])
        self.assertEqual(net_walk(net, "a", "in", "00"), ([("a", "in", "00")], ("ring", "a")))
        self.assertEqual(net_walk(net, "a", "out", "00"), ([("a", "out", "00"), ("a", "in", "00")], ("ring", "a")))
        self.assertEqual(net_fared(net, "a", "out", "00"), ("ring",))

    def test_least_name_of_a_ring(self):
        for names in itertools.permutations(["b", "ab", "abc", "z"]):
            net = ring_of(list(names))
            for name in names:
                self.assertEqual(net_walk(net, name, "in", "01")[1], ("ring", "ab"))
            self.check_spots(net, all_letters(2))

    def test_houses_ahead_of_a_ring_are_none_of_it(self):
        net = ring_of(["m", "n"])
        for ahead in ("a", "z"):
            way = [("", "out")]
            lined = (TO, net[1][:1] + [("n", (net[1][1][1][0] + [("side", list(PASS))], way)), (ahead, passing("out"))],
                     net[2] + [((ahead, "out"), ("n", "side"))])
            self.assertEqual(net_walk(lined, ahead, "in", "01"), (
                [(ahead, "in", "01"), ("n", "side", "01"), ("m", "in", "01"), ("n", "in", "01")], ("ring", "m")))
            self.check_spots(lined, all_letters(2))

    def test_not_a_ring_where_the_letter_or_the_door_is_another(self):
        house = ([("in", [("0-", "pass", "1-"), ("--", "pass", "-1")]), ("out", [("0-", "pass", "1-")])],
                 [("0", "out"), ("1", "side")])
        house[0].append(("side", []))
        house[0].append(("back", [("--", "pass", "--")]))
        net = (TO, [("a", house)], [(("a", "out"), ("a", "in"))])
        self.assertEqual(net_walk(net, "a", "in", "00"),
                         ([("a", "in", "00"), ("a", "in", "10")], ("out", "a", "side", "11")))
        self.assertEqual(net_walk(net, "a", "back", "00"),
                         ([("a", "back", "00"), ("a", "in", "00"), ("a", "in", "10")], ("out", "a", "side", "11")))
        self.check_spots(net, all_letters(2))

    def test_long_rings(self):
        for places, houses in ((1, 1), (2, 3), (5, 1), (5, 10)):
            net = counting(places, houses)
            for letter in ("0" * (places + 1), "1" * (places + 1), "01" * 3):
                trail, end = net_walk(net, "ha", "in", letter[:places + 1])
                self.assertEqual((len(trail), end), (2 ** places * houses, ("ring", "ha")))
                self.check(net, "h" + "abcdefghij"[houses - 1], "in", letter[:places + 1])

    def test_ring_behind_a_long_way(self):
        net = counting(5, 2)
        # The count is done once, and then the letter stays as it is.
        net[1][0][1][0][0][1].pop()
        net[1][0][1][0][0][1].append(("11111-", "pass", "------"))
        trail, end = net_walk(net, "hb", "in", "000000")
        self.assertEqual((len(trail), end), (64, ("ring", "ha")))
        self.check_spots(net, all_letters(6))


class Refused(Walks):
    def setUp(self):
        self.net = (TO, [("a", passing("out")), ("b", ([], []))], [])

    def test_no_house(self):
        for function in (net_walk, net_fared):
            for name in ("", "c", "aa", "in", "to"):
                check_refused(self, "NoHouse", function, self.net, name, "in", "00")
                check_refused(self, "NoHouse", function, self.net, name, "none", "00")
                check_refused(self, "NoHouse", function, self.net, name, "none", None)
            check_refused(self, "NoHouse", function, (TO, [], []), "a", "in", "00")

    def test_no_door(self):
        for function in (net_walk, net_fared):
            for door in ("", "i", "inn", "a", "to", "none"):
                check_refused(self, "NoDoor", function, self.net, "a", door, "00")
                check_refused(self, "NoDoor", function, self.net, "a", door, None)
            check_refused(self, "NoDoor", function, self.net, "b", "in", "00")

    def test_no_letter_of_the_width(self):
        things = OTHER_THINGS + OTHER_SIGNS + ["", "0", "1", "000", "0-", "--", "-0", "01\n", "0\n", " 0", "0" * 48]
        things += ["0" + sign for sign in OTHER_SIGNS] + [["00"], ("0", "0"), ["0", "0"]]
        for function in (net_walk, net_fared):
            for thing in things:
                check_refused(self, "Misfit", function, self.net, "a", "in", thing)
