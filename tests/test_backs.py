"""Points 31 and 32: the way back and the picture, held against the walk of each letter."""

import random
import unittest

from tests.sets import END_KINDS, PASS, TO, all_letters, check_refused, counting, deep_kinds, graph_at, letters_of
from tests.sets import lines_round, narrow, open_of, passing, plain_picture, plain_walks, ring_of, some_heaps
from tests.sets import some_layout, some_net, some_places, some_signs, spots_of, width_of
from throng.backs import net_back, net_picture
from throng.graphs import graph_of

NONE = (0, [])
ALL = (1, [])


class Backs(unittest.TestCase):
    def check_back(self, net, places, walks, out, letters):
        """Letters are the choices at the places that lie in the graph handed in."""
        told = net_back(net, *out, graph_at(letters, places))
        wanted = []
        for spot in spots_of(net):
            back = {choice for choice, (letter, trail, end) in walks[spot].items()
                    if end[:3] == ("out",) + out and narrow(end[3], places) in letters}
            wanted.append((spot, graph_at(back, places)))
        self.assertEqual(told, wanted)
        self.assertEqual(deep_kinds(told), deep_kinds(wanted))
        return told

    def check_picture(self, net, places, walks, spot):
        told = net_picture(net, *spot)
        wanted = plain_picture(walks[spot], places)
        self.assertEqual(told, wanted)
        self.assertEqual(deep_kinds(told), deep_kinds(wanted))
        return told

    def check_agree(self, net, pictures):
        """That the letters that come back from a spot are those that the pictures tell."""
        for out in spots_of(net):
            for spot, graph in net_back(net, *out, ALL):
                self.assertEqual(graph, dict(pictures[spot]).get(("out",) + out, NONE))

    def check(self, net, places, heaps):
        """Heaps are of the choices at the places; told are the words of all ends met."""
        chance = random.Random(31)
        walks = {spot: plain_walks(chance, net, places, *spot) for spot in spots_of(net)}
        for out in spots_of(net):
            for heap in heaps:
                for spot, graph in self.check_back(net, places, walks, out, letters_of(heap)):
                    self.assertTrue(out in open_of(net) or graph == NONE)
        pictures = {spot: self.check_picture(net, places, walks, spot) for spot in spots_of(net)}
        self.check_agree(net, pictures)
        return [end[0] for picture in pictures.values() for end, graph in picture]

    def check_small(self, net, heaps):
        return self.check(net, range(width_of(net)), heaps)


class SmallNets(Backs):
    def test_each_net_of_one_house(self):
        rules = [[(row, word, over)] for row in "01-" for word in ("pass", "drop") for over in "01-"]
        for some in [[]] + rules:
            for ways in ([], [("", "a")], [("", "b")], [("0", "a"), ("1", "b")], [("", "b"), ("1", "a")], [("1", "b")]):
                for lines in ([], [(("h", "a"), ("h", "b"))]):
                    net = ([("to", 1)], [("h", ([("a", some), ("b", [("-", "pass", "0")])], ways))], lines)
                    self.check_small(net, [["-"], ["0"], []])

    def test_some_nets(self):
        ends = []
        for width in range(1, 7):
            chance = random.Random(width)
            for number in range(30):
                net = some_net(chance, some_layout(chance, width), range(width), 5)
                ends.extend(self.check_small(net, some_heaps(number, width, 2, 6) + [["-" * width]]))
        for kind in END_KINDS:
            self.assertGreater(ends.count(kind), 100)

    def test_many_houses(self):
        chance = random.Random(10)
        for number in range(8):
            net = some_net(chance, some_layout(chance, 5), range(5), 10)
            self.check_small(net, [["0----", "-1--1"]])


class WideNets(Backs):
    """Nets of up to 48 places, which tell with the graph at most twelve of them."""

    def test_some_nets(self):
        chance = random.Random(48)
        for width in (7, 13, 30, 47, 48):
            for count in (2, 4, 6):
                layout = some_layout(chance, width)
                places = some_places(chance, layout, count)
                net = some_net(chance, layout, places, 5)
                self.check(net, places, some_heaps(width, count, 2, 5))

    def test_graph_tells_other_places_than_the_net(self):
        chance = random.Random(31)
        places = [0, 5, 19, 20, 21, 39, 47]
        for number in range(6):
            net = some_net(chance, [("a", 20), ("to", 20), ("b", 8)], [0, 19, 20, 21], 5)
            heap = [some_signs(chance, 7, [0, 1, 5, 6], "01--") for row in range(6)]
            self.check(net, places, [heap])

    def test_twelve_places(self):
        chance = random.Random(12)
        places = [0, 2, 11, 18, 19, 20, 21, 22, 23, 31, 46, 47]
        net = some_net(chance, [("a", 20), ("to", 20), ("b", 8)], places, 4)
        while len(open_of(net)) < 2 or net[2] == []:
            net = some_net(chance, [("a", 20), ("to", 20), ("b", 8)], places, 4)
        walks = {spot: plain_walks(chance, net, places, *spot) for spot in spots_of(net)}
        for heap in some_heaps(12, 12, 2, 20):
            for out in open_of(net)[:2]:
                self.check_back(net, places, walks, out, letters_of(heap))
        for spot in spots_of(net)[:3]:
            self.check_picture(net, places, walks, spot)


class ByHand(Backs):
    def test_no_rules_and_no_ways(self):
        net = (TO, [("a", ([("in", []), ("out", [("--", "pass", "11")])], []))], [])
        self.assertEqual(net_picture(net, "a", "in"), [(("drop", "a", "in", 0), ALL)])
        self.assertEqual(net_picture(net, "a", "out"), [(("lost", "a", "out"), ALL)])
        self.assertEqual(net_back(net, "a", "out", ALL), [(("a", "in"), NONE), (("a", "out"), NONE)])

    def test_ends_and_spots_are_sorted(self):
        rules = [("00---", "drop", "-----"), ("01---", "pass", "1----"), ("1-1--", "drop", "-----"),
                 ("-----", "pass", "-----")]
        net = ([("a", 3), ("to", 2)],
               [("b", ([("z", rules), ("in", []), ("side", list(rules))], [("1", "z"), ("01", "in"), ("00", "side")])),
                ("a", ([("in", rules[1:2])], [("1", "in")]))], [(("b", "side"), ("a", "in"))])
        self.check_small(net, [["-----"], ["1----", "0-1-1"], []])
        self.assertEqual([end for end, graph in net_picture(net, "b", "z")],
                         [("drop", "a", "in", 1), ("drop", "b", "z", 0), ("drop", "b", "z", 2),
                          ("out", "b", "in"), ("out", "b", "z")])
        self.assertEqual([spot for spot, graph in net_back(net, "b", "in", ALL)],
                         [("a", "in"), ("b", "in"), ("b", "side"), ("b", "z")])

    def test_numbers_of_rules_are_sorted_as_numbers(self):
        rules = [(letter + "-", "drop", "-----") for letter in all_letters(4)]
        net = ([("a", 4), ("to", 1)], [("h", ([("in", rules)], []))], [])
        self.assertEqual([end for end, graph in net_picture(net, "h", "in")],
                         [("drop", "h", "in", number) for number in range(16)])

    def test_out_of_one_spot_by_several_overs_is_one_end(self):
        rules = [("0-", "pass", "1-"), ("11", "pass", "0-"), ("--", "pass", "--")]
        net = (TO, [("a", ([("in", rules), ("out", [])], [("", "out")]))], [])
        self.assertEqual(net_picture(net, "a", "in"), [(("out", "a", "out"), ALL)])
        self.assertEqual(net_back(net, "a", "out", graph_of(["1-"]))[0], (("a", "in"), graph_of(["0-", "10"])))

    def test_no_letter_of_the_graph(self):
        for net in (ring_of(["a", "b"]), (TO, [("a", passing("out")), ("b", passing("in"))], [])):
            for spot in spots_of(net):
                self.assertEqual(net_back(net, *spot, NONE), [(other, NONE) for other in spots_of(net)])

    def test_spot_that_is_not_open(self):
        net = (TO, [("a", passing("out")), ("b", passing("out"))], [(("a", "out"), ("b", "in"))])
        for spot in (("a", "out"), ("b", "in")):
            self.assertEqual(net_back(net, *spot, ALL), [(other, NONE) for other in spots_of(net)])
        self.assertEqual(net_back(net, "b", "out", graph_of(["01"])),
                         [(spot, graph_of(["01"])) for spot in spots_of(net)])

    def test_house_without_doors(self):
        net = (TO, [("a", ([], [])), ("b", passing("in"))], [])
        self.assertEqual([spot for spot, graph in net_back(net, "b", "in", ALL)], [("b", "in"), ("b", "out")])

    def test_sent_out_by_the_door_of_coming_in(self):
        net = (TO, [("b", passing("in"))], [])
        self.assertEqual(net_back(net, "b", "in", graph_of(["-1"])),
                         [(("b", "in"), graph_of(["-1"])), (("b", "out"), graph_of(["-1"]))])
        self.assertEqual(net_back(net, "b", "out", ALL), [(("b", "in"), NONE), (("b", "out"), NONE)])

    def test_rings(self):
        for names in (["a"], ["b", "a"], ["c", "z", "aa", "b"]):
            net = ring_of(names)
            self.check_small(net, [["--"], ["0-"]])
            self.assertEqual(net_picture(net, names[0], "in"), [(("ring", min(names)), ALL)])

    def test_two_rings(self):
        fork = ([("in", list(PASS)), ("left", []), ("right", [])], [("0", "left"), ("1", "right")])
        entry = ([("in", list(PASS)), ("out", []), ("side", list(PASS))], [("", "out")])
        net = (TO, [("s", fork), ("n", entry), ("m", passing("out")), ("q", entry), ("r", passing("out"))],
               lines_round(["m", "n"]) + lines_round(["q", "r"])
               + [(("s", "left"), ("n", "side")), (("q", "side"), ("s", "right"))])
        self.check_small(net, [["--"]])
        self.assertEqual(net_picture(net, "s", "in"),
                         [(("ring", "m"), graph_of(["-0"])), (("ring", "q"), graph_of(["-1"]))])

    def test_long_rings(self):
        for places, count in ((3, 2), (5, 3)):
            self.check_small(counting(places, count), [["-" * (places + 1)]])

    def test_long_rings_of_many_classes(self):
        net = counting(5, 10, 6)
        for spot in spots_of(net)[:6]:
            self.assertEqual(net_picture(net, *spot),
                             [(("drop",) + spot + (0,) if spot[1] == "out" else ("ring", "ha"), ALL)])

    def test_refused(self):
        net = (TO, [("a", passing("out")), ("b", ([], []))], [])
        for given in ([NONE], [ALL], [graph_of(["01", "10"])], None):
            function, others = (net_picture, []) if given is None else (net_back, given)
            for name in ("", "c", "aa", "in", "to"):
                check_refused(self, "NoHouse", function, net, name, "in", *others)
                check_refused(self, "NoHouse", function, net, name, "none", *others)
            for door in ("", "i", "a", "to", "none"):
                check_refused(self, "NoDoor", function, net, "a", door, *others)
            check_refused(self, "NoDoor", function, net, "b", "in", *others)
            check_refused(self, "NoHouse", function, (TO, [], []), "a", "in", *others)
