"""Point 30, and what is due of point 4: classes, held against the walk of each letter."""

import random
import unittest

from tests.sets import END_KINDS, PASS, TO, all_letters, check_class_has, check_classes, check_refused, counting
from tests.sets import letters_in, passing, plain_walks, ring_of, some_heaps, some_layout, some_net, some_places
from tests.sets import some_signs, spots_of, width_of, written
from throng.classes import net_classes
from throng.walks import net_walk


class Classes(unittest.TestCase):
    def check_at(self, net, places, spots, heaps):
        """Holds the classes at the spots against a letter for each choice at the places."""
        chance = random.Random(30)
        ends = []
        for house, door in spots:
            walks = plain_walks(chance, net, places, house, door)
            for heap in heaps:
                classes = net_classes(net, house, door, heap)
                check_classes(self, classes, width_of(net), places, heap, walks)
                ends.extend(end[0] for row, end, met in classes)
        return ends

    def check_spots(self, net, heaps):
        return self.check_at(net, range(width_of(net)), spots_of(net), heaps)


class SmallNets(Classes):
    def test_each_net_of_one_house(self):
        rules = [[(row, word, over)] for row in "01-" for word in ("pass", "drop") for over in "01-"]
        for some in [[]] + rules:
            for ways in ([], [("", "a")], [("", "b")], [("0", "a"), ("1", "b")], [("", "b"), ("1", "a")], [("1", "b")]):
                for others in ([], [("-", "pass", "-")], [("-", "pass", "0")]):
                    for lines in ([], [(("h", "a"), ("h", "b"))]):
                        net = ([("to", 1)], [("h", ([("a", some), ("b", others)], ways))], lines)
                        self.check_spots(net, [["-"], ["0"]])

    def test_some_nets(self):
        ends = []
        for width in range(1, 7):
            chance = random.Random(width)
            for number in range(60):
                net = some_net(chance, some_layout(chance, width), range(width), 5)
                heaps = some_heaps(number, width, 2, 6) + [["-" * width], []]
                ends.extend(self.check_spots(net, heaps))
        for kind in END_KINDS:
            self.assertGreater(ends.count(kind), 300)

    def test_many_houses(self):
        chance = random.Random(10)
        for number in range(30):
            net = some_net(chance, some_layout(chance, 5), range(5), 10)
            self.check_spots(net, [["-" * 5], ["0----", "-1--1", "0----"]])

    def test_one_letter_ends_where_all_letters_end(self):
        chance = random.Random(4)
        for number in range(60):
            net = some_net(chance, some_layout(chance, 4), range(4), 6)
            for house, door in spots_of(net):
                for letter in all_letters(4):
                    classes = net_classes(net, house, door, [letter])
                    self.assertEqual([row for row, end, met in classes], [letter])
                    check_class_has(self, classes[0], letter, *net_walk(net, house, door, letter))
                for one in net_classes(net, house, door, ["----"]):
                    for letter in letters_in(one[0]):
                        check_class_has(self, one, letter, *net_walk(net, house, door, letter))


class WideNets(Classes):
    """Nets of up to 48 places, which tell with the heap at most twelve of them."""

    def test_some_nets(self):
        chance = random.Random(47)
        for width in (7, 13, 30, 47, 48):
            for count in (2, 4, 7):
                layout = some_layout(chance, width)
                places = some_places(chance, layout, count)
                net = some_net(chance, layout, places, 6)
                heap = [some_signs(chance, width, places, "01--") for row in range(chance.randint(0, 9))]
                self.check_at(net, places, spots_of(net), [heap, ["-" * width]])

    def test_heap_tells_other_places_than_the_net(self):
        chance = random.Random(30)
        for number in range(10):
            net = some_net(chance, [("a", 20), ("to", 20), ("b", 8)], [0, 19, 20, 21], 5)
            places = [0, 5, 19, 20, 21, 39, 47]
            heap = [some_signs(chance, 48, [0, 5, 39, 47], "01--") for row in range(6)]
            self.check_at(net, places, spots_of(net), [heap])

    def test_twelve_places(self):
        chance = random.Random(12)
        for number in range(3):
            layout = [("a", 20), ("to", 20), ("b", 8)]
            places = [0, 2, 11, 18, 19, 20, 21, 22, 23, 31, 46, 47]
            net = some_net(chance, layout, places, 10)
            heap = [some_signs(chance, 48, places, "01-----") for row in range(20)]
            self.check_at(net, places, spots_of(net)[:2], [heap])

    def test_many_rules_ways_and_rows(self):
        chance = random.Random(300)
        places = [0, 2, 11, 18, 19, 20, 21, 22, 23, 31, 46, 47]
        houses = []
        for name in ("a", "b", "c"):
            gates = []
            for door in ("in", "out"):
                gates.append((door, [(some_signs(chance, 48, places, "01--"), chance.choice(["pass", "pass", "drop"]),
                                      some_signs(chance, 48, [0, 20, 21, 46, 47], "01--")) for rule in range(300)]))
            ways = [(beginning, chance.choice(["in", "out"])) for size in range(5) for beginning in all_letters(size)]
            houses.append((name, (gates, ways)))
        lines = [(("a", "out"), ("b", "in")), (("b", "out"), ("c", "in"))]
        heap = [some_signs(chance, 48, places, "01-") for row in range(300)]
        self.check_at(([("a", 20), ("to", 20), ("b", 8)], houses, lines), places, [("b", "in")], [heap])


class ClassesByHand(Classes):
    def test_no_rows_in_the_heap(self):
        for net in (ring_of(["a"]), (TO, [("a", passing("out"))], [])):
            self.assertEqual(net_classes(net, "a", "in", []), [])

    def test_one_house(self):
        net = (TO, [("a", passing("out"))], [])
        self.assertEqual(net_classes(net, "a", "in", ["0-"]), [("0-", ("out", "a", "out", "--"), ["a"])])
        self.check_spots(net, [["--"], ["0-", "-0"], ["00", "00"]])

    def test_no_rules_and_no_ways(self):
        net = (TO, [("a", ([("in", []), ("out", [("--", "pass", "11")])], []))], [])
        self.assertEqual(net_classes(net, "a", "in", ["--"]), [("--", ("drop", "a", "in", 0), ["a"])])
        self.assertEqual(net_classes(net, "a", "out", ["--"]), [("--", ("lost", "a", "out"), ["a"])])

    def test_houses_met_are_sorted_and_each_once(self):
        house = ([("in", list(PASS)), ("out", list(PASS)), ("side", list(PASS))], [("0", "out"), ("1", "side")])
        back = ([("in", [("--", "pass", "-1")]), ("out", [])], [("", "out")])
        net = (TO, [("b", house), ("a", back), ("c", passing("out"))],
               [(("b", "out"), ("a", "in")), (("a", "out"), ("b", "in")), (("b", "side"), ("c", "in"))])
        told = {row: (end, met) for row, end, met in net_classes(net, "b", "in", ["-0", "-1"])}
        self.assertEqual(told, {"-0": (("out", "c", "out", "-1"), ["a", "b", "c"]),
                                "-1": (("out", "c", "out", "--"), ["b", "c"])})
        self.check_spots(net, [["--"]])

    def test_written_over_and_over(self):
        houses = []
        for name, over in (("a", "1---"), ("b", "01--"), ("c", "--0-")):
            houses.append((name, ([("in", [("----", "pass", over)]), ("out", [])], [("", "out")])))
        net = ([("to", 4)], houses, [(("a", "out"), ("b", "in")), (("b", "out"), ("c", "in"))])
        self.check_spots(net, [["----"], ["1-0-", "0--1"]])
        for row, end, met in net_classes(net, "a", "in", ["1--1"]):
            self.assertEqual(written("1111", end[3]), "0101")

    def test_rings(self):
        for names in (["a"], ["b", "a"], ["c", "z", "aa", "b"]):
            net = ring_of(names)
            self.check_spots(net, [["--"], ["0-", "01"]])
            for row, end, met in net_classes(net, names[0], "in", ["--"]):
                self.assertEqual((end, met), (("ring", min(names)), sorted(names)))

    def test_ring_that_writes(self):
        for overs in (("1--", "---"), ("1--", "0--"), ("1--", "-1-"), ("10-", "01-"), ("--1", "--0")):
            houses = []
            for name, over in zip("ab", overs):
                houses.append((name, ([("in", [("---", "pass", over)]), ("out", [])], [("", "out")])))
            net = ([("to", 3)], houses, ring_of(["a", "b"])[2])
            self.check_spots(net, [["---"], ["0--", "-11"]])

    def test_rings_that_some_letters_leave(self):
        rules = [("00-", "pass", "01-"), ("01-", "pass", "10-"), ("10-", "pass", "11-"), ("110", "drop", "---"),
                 ("111", "pass", "00-")]
        net = ([("count", 2), ("to", 1)], [("a", ([("in", rules), ("out", [])], [("", "out")]))],
               [(("a", "in"), ("a", "out"))])
        self.check_spots(net, [["---"], ["0-1", "--0"]])
        self.assertEqual({(end, row[2]) for row, end, met in net_classes(net, "a", "in", ["---"])},
                         {(("drop", "a", "in", 3), "0"), (("ring", "a"), "1")})

    def test_houses_ahead_of_a_ring(self):
        house = ([("in", list(PASS)), ("out", list(PASS)), ("side", [("1-", "pass", "0-")])], [("", "out")])
        net = (TO, [("m", passing("out")), ("n", house), ("a", passing("out"))],
               ring_of(["m", "n"])[2] + [(("a", "out"), ("n", "side"))])
        told = sorted(net_classes(net, "a", "in", ["--"]))
        self.assertEqual(told, [("0-", ("drop", "n", "side", 1), ["a", "n"]), ("1-", ("ring", "m"), ["a", "m", "n"])])
        self.check_spots(net, [["--"]])

    def test_long_rings(self):
        for places, count in ((1, 1), (3, 2), (5, 1), (5, 3)):
            net = counting(places, count)
            self.check_spots(net, [["-" * (places + 1)]])
        net = counting(5, 10)
        for row, end, met in net_classes(net, "hc", "in", ["------"]):
            self.assertEqual((end, met), (("ring", "ha"), ["h" + sign for sign in "abcdefghij"]))

    def test_refused(self):
        net = (TO, [("a", passing("out")), ("b", ([], []))], [])
        for heap in ([], ["--"], ["0-", "01"]):
            for name in ("", "c", "aa", "in", "to"):
                check_refused(self, "NoHouse", net_classes, net, name, "in", heap)
                check_refused(self, "NoHouse", net_classes, net, name, "none", heap)
            for door in ("", "i", "a", "to", "none"):
                check_refused(self, "NoDoor", net_classes, net, "a", door, heap)
            check_refused(self, "NoDoor", net_classes, net, "b", "in", heap)
            check_refused(self, "NoHouse", net_classes, (TO, [], []), "a", "in", heap)
