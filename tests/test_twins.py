"""Point 36, and what is due of point 4: two nets, held against the walks of each letter in both."""

import copy
import random
import unittest

from tests.sets import PASS, TO, check_refused, counting, drawn_net, lines_round, open_of, other_rules, other_ways
from tests.sets import passing, places_to, plain_fare, ring_of, some_house, some_layout, some_letters, some_net
from tests.sets import spread, width_of, with_rules, with_ways
from throng.rules import rules_thinned
from throng.twins import net_parted
from throng.ways import ways_thinned


class Twins(unittest.TestCase):
    def check(self, one, other, places):
        """The nets tell together none but these places; told is whether they are alike."""
        letters = some_letters(random.Random(36), places, width_of(one))
        told = net_parted(one, other)
        laid = [spot + (letter,) for spot in open_of(one) for letter in letters]
        if all(plain_fare(one, *given) == plain_fare(other, *given) for given in laid):
            self.assertIsNone(told, (one, other))
            return True
        self.assertIs(type(told), tuple)
        self.assertEqual([type(part) for part in told], [str, str, str])
        house, door, letter = told
        self.assertIn((house, door), open_of(one))
        self.assertEqual((len(letter), set(letter) - set("01")), (width_of(one), set()))
        self.assertNotEqual(plain_fare(one, *told), plain_fare(other, *told))
        return False

    def check_both(self, one, other, places):
        alike = self.check(one, other, places)
        self.assertEqual(self.check(other, one, places), alike)
        self.assertIsNone(net_parted(one, copy.deepcopy(one)))
        return alike


def other_lines(chance, net, places):
    """The net with the same tied spots, tied otherwise."""
    tied = [spot for line in net[2] for spot in line]
    chance.shuffle(tied)
    return (net[0], net[1], list(zip(tied[::2], tied[1::2])))


def thinner(chance, net, places):
    """The net with needless rules and ways struck at each house by itself, so that it is alike."""
    houses = []
    for name, house in net[1]:
        gates = [(door, rules_thinned(rules, width_of(net))) for door, rules in house[0]]
        houses.append((name, (gates, ways_thinned(house[1], len(places_to(net[0]))))))
    return (net[0], houses, net[2])


def turned(chance, net, places):
    """The net with houses, gates, ways, lines and their spots in another order, so that it is alike."""
    houses = []
    for name, house in net[1]:
        gates, ways = list(house[0]), list(house[1])
        chance.shuffle(gates)
        chance.shuffle(ways)
        houses.append((name, (gates, ways)))
    chance.shuffle(houses)
    return (net[0], houses, [(other, one) for one, other in net[2]][::-1])


class SomeNets(Twins):
    def test_changed_in_one_place(self):
        alike = []
        for width in range(1, 7):
            chance = random.Random(width)
            for number in range(50):
                net, places = drawn_net(chance, width)
                for change in (other_rules, other_ways, other_lines):
                    alike.append(self.check_both(net, change(chance, net, places), places))
        self.assertGreater(alike.count(True), 150)
        self.assertGreater(alike.count(False), 150)

    def test_alike_though_not_the_same(self):
        for width in range(1, 7):
            chance = random.Random(width)
            for number in range(20):
                net, places = drawn_net(chance, width)
                for change in (thinner, turned):
                    self.assertTrue(self.check_both(net, change(chance, net, places), places))

    def test_nets_with_nothing_in_common_but_open_spots(self):
        chance = random.Random(36)
        alike = []
        for number in range(60):
            layout = some_layout(chance, 3)
            nets = []
            for count in (1, 3):
                houses = [("a", some_house(chance, layout, range(3), [0, 2], ["in", "out", "side"]))]
                names = ["b", "c", "d"][:count]
                houses.extend((name, some_house(chance, layout, range(3), [0, 2], ["in", "out"])) for name in names)
                nets.append((layout, houses, lines_round(names)[:-1]
                             + [(("a", "side"), (names[0], "in")), ((names[-1], "out"), ("a", "out"))]))
            alike.append(self.check_both(*nets, range(3)))
        self.assertIn(True, alike)
        self.assertIn(False, alike)

    def test_wide_nets(self):
        chance = random.Random(48)
        alike = []
        for width in (7, 13, 30, 47, 48):
            for count in (2, 4, 6, 6):
                net, places = drawn_net(chance, width, count)
                for change in (other_rules, other_ways, other_lines, thinner, turned):
                    alike.append(self.check_both(net, change(chance, net, places), places))
        self.assertIn(True, alike)
        self.assertIn(False, alike)

    def test_twelve_places(self):
        chance = random.Random(12)
        layout = [("a", 20), ("to", 20), ("b", 8)]
        places = [0, 2, 11, 18, 19, 20, 21, 22, 23, 31, 46, 47]
        net = (layout, [], [])
        while len(open_of(net)) not in (2, 3) or len(net[2]) < 2:
            net = some_net(chance, layout, places, 4)
        for change in (other_rules, other_ways, thinner):
            self.check(net, change(chance, net, places), places)


class ByHand(Twins):
    def test_one_letter_parts(self):
        bare = "-" * 48
        for letter in ("0" * 12, "1" * 12, "01" * 6):
            places = [0, 3, 4, 11, 12, 20, 23, 30, 31, 40, 46, 47]
            rows = spread([letter], places, 48)
            one = ([("to", 48)], [("a", ([("in", [(bare, "pass", bare)]), ("out", [])], [("", "out")]))], [])
            other = with_rules(one, ("a", "in"), [(rows[0], "drop", bare), (bare, "pass", bare)])
            told = net_parted(one, other)
            self.assertEqual(told[:2], ("a", "in"))
            self.assertEqual("".join(told[2][place] for place in places), letter)

    def test_written_alike_or_not(self):
        one = (TO, [("a", passing("out"))], [])
        for rules, alike in (([("0-", "pass", "0-")] + PASS, True), ([("1-", "pass", "1-")] + PASS, True),
                             ([("--", "pass", "0-")], False), ([("--", "pass", "-1")], False),
                             ([("-1", "pass", "-1"), ("-0", "pass", "--")], True), ([("0-", "pass", "--")], False),
                             ([("00", "pass", "0-"), ("11", "pass", "11"), ("--", "pass", "--")], True),
                             ([("11", "pass", "10")] + PASS, False), ([("00", "pass", "10")] + PASS, False)):
            self.assertEqual(self.check_both(one, with_rules(one, ("a", "in"), rules), range(2)), alike)

    def test_dropped_and_lost_are_alike(self):
        drop = (TO, [("a", ([("in", [("--", "drop", "--")])], [("", "in")]))], [])
        none = (TO, [("a", ([("in", [])], [("", "in")]))], [])
        lost = (TO, [("a", ([("in", list(PASS))], []))], [])
        sent = (TO, [("a", ([("in", list(PASS))], [("", "in")]))], [])
        for one in (drop, none, lost):
            for other in (drop, none, lost):
                self.assertTrue(self.check_both(one, other, range(2)))
            self.assertFalse(self.check_both(one, sent, range(2)))

    def test_dropped_elsewhere_is_alike(self):
        one = (TO, [("a", ([("in", [])], [])), ("b", passing("out"))], [])
        deep = (TO, [("a", ([("in", list(PASS)), ("side", [])], [("", "side")])), ("c", ([("in", [])], [])),
                     ("b", passing("out"))], [(("a", "side"), ("c", "in"))])
        self.assertTrue(self.check_both(one, deep, range(2)))

    def test_rings(self):
        """Rings are alike whatever houses are in them, and are not alike with what is lost."""
        def net(names, over):
            entry = ([("in", list(PASS)), ("side", [("--", "pass", over)]), ("out", [])], [("", "out")])
            lay = ([("in", list(PASS)), ("out", [])], [("", "out")])
            return (TO, [("lay", lay)] + [(name, entry if name == names[0] else passing("out")) for name in names],
                    lines_round(names) + [(("lay", "out"), (names[0], "side"))])

        for one, other in ((net(["b"], "--"), net(["c", "a"], "--")), (net(["b"], "--"), net(["b"], "01"))):
            self.assertTrue(self.check_both(one, other, range(2)))
        lost = with_ways(net(["b"], "--"), "b", [("0", "out")])
        self.assertFalse(self.check_both(net(["b"], "--"), lost, range(2)))
        self.assertTrue(self.check_both(counting(3, 2), counting(3, 2), range(4)))

    def test_no_open_spot(self):
        self.assertIsNone(net_parted((TO, [], []), (TO, [], [])))
        self.assertIsNone(net_parted((TO, [("a", ([], []))], []), (TO, [], [])))
        self.assertIsNone(net_parted(ring_of(["a", "b"]), ring_of(["c"])))

    def test_letters_at_tied_spots_don_t_count(self):
        one = (TO, [("a", passing("out")), ("b", passing("out"))], [(("a", "out"), ("b", "in"))])
        other = with_rules(one, ("a", "out"), [])
        self.assertTrue(self.check_both(one, other, range(2)))
        self.assertFalse(self.check_both(one, with_rules(one, ("b", "out"), []), range(2)))
        self.assertEqual(net_parted(one, with_rules(one, ("b", "out"), []))[:2], ("b", "out"))

    def test_line_the_other_way(self):
        house = ([("in", list(PASS)), ("x", []), ("y", [])], [("0", "x"), ("1", "y")])
        net = (TO, [("a", house), ("b", passing("out")), ("c", passing("out"))],
               [(("a", "x"), ("b", "in")), (("a", "y"), ("c", "in"))])
        other = net[:2] + ([(("a", "y"), ("b", "in")), (("a", "x"), ("c", "in"))],)
        self.assertFalse(self.check_both(net, other, range(2)))
        self.assertEqual(net_parted(net, other)[:2], ("a", "in"))

    def test_refused(self):
        net = (TO, [("a", passing("out")), ("b", passing("out"))], [])
        layouts = [[("to", 2)], [("to", 1), ("a", 1)], [("a", 1), ("b", 1), ("to", 1)], [("b", 1), ("to", 1)],
                   [("a", 2), ("to", 1)], [("a", 1), ("to", 2)]]
        for layout in layouts:
            bare = "-" * sum(size for name, size in layout)
            other = (layout, [(name, ([("in", [(bare, "pass", bare)]), ("out", [])], [])) for name in ("a", "b")], [])
            check_refused(self, "Unlike", net_parted, net, other)
            check_refused(self, "Unlike", net_parted, other, net)
            check_refused(self, "Unlike", net_parted, (layout, [], []), net)
            check_refused(self, "Unlike", net_parted, (layout, [], []), (TO, [], []))
        for houses, lines in ((net[1][:1], []), (net[1] + [("c", passing("in"))], []), ([], []),
                              (net[1], [(("a", "in"), ("b", "in"))]), (net[1][:1] + [("c", passing("out"))], []),
                              ([("a", passing("out")), ("b", ([("in", []), ("ot", [])], []))], []),
                              ([("a", passing("out")), ("b", ([("in", [])], []))], [])):
            check_refused(self, "Unlike", net_parted, net, (TO, houses, lines))
            check_refused(self, "Unlike", net_parted, (TO, houses, lines), net)
