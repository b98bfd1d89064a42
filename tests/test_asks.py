"""Point 33, and what is due of point 4: can_come, held against the walk of each letter."""

import itertools
import random
import unittest

from tests.sets import PASS, TO, all_rows, check_classes, check_refused, counting, filled, letters_of, lies_in
from tests.sets import lines_round, narrow, open_of, passing, plain_walk, plain_walks, ring_of, some_heaps
from tests.sets import some_layout, some_net, some_places, some_signs, spots_of, spread, width_of
from throng.asks import can_come


class Asks(unittest.TestCase):
    def comes(self, trail, end, goal, beside):
        """Whether a letter with this trail and end comes to the goal past the house beside."""
        met = [name for name, door, letter in trail]
        if end[:3] != ("out",) + goal[:2] or beside in met:
            return False
        return any(lies_in(end[3], row) for row in goal[2])

    def check(self, net, places, walks, spot, heap, goal, beside):
        """The heap and the goal's one are of the choices at the places; told is the word."""
        width = width_of(net)
        heap = spread(heap, places, width)
        goal = goal[:2] + (spread(goal[2], places, width),)
        told = can_come(net, *spot, heap, goal, beside)
        if beside is None:
            self.assertEqual(can_come(net, *spot, heap, goal), told)
        self.assertIs(type(told), tuple)
        self.assertEqual(len(told), 2)
        laid = letters_of([narrow(row, places) for row in heap])
        some = [choice for choice in laid if self.comes(*walks[spot][choice][1:], goal, beside)]
        self.assertEqual(told[0], "yes" if some else "no", (net, spot, heap, goal, beside))
        if told[0] == "yes":
            letter = told[1]
            self.assertEqual((type(letter), len(letter), set(letter) - set("01")), (str, width, set()))
            self.assertTrue(any(lies_in(letter, row) for row in heap))
            self.assertTrue(self.comes(*plain_walk(net, *spot, letter), goal, beside))
        else:
            check_classes(self, told[1], width, places, heap, walks[spot])
        return told[0]

    def walks(self, net, places):
        chance = random.Random(33)
        return {spot: plain_walks(chance, net, places, *spot) for spot in spots_of(net)}

    def check_all(self, net, places, heaps):
        """From each spot to each, past each house and past none."""
        walks = self.walks(net, places)
        words = []
        for spot, goal in itertools.product(spots_of(net), repeat=2):
            for number, beside in enumerate([None] + [name for name, house in net[1]]):
                heap = heaps[number % len(heaps)]
                for rows in heaps:
                    words.append(self.check(net, places, walks, spot, heap, goal + (rows,), beside))
        return words


class SmallNets(Asks):
    def test_each_net_of_one_house(self):
        rules = [[(row, word, over)] for row in "0-" for word in ("pass", "drop") for over in "01-"]
        for some in [[]] + rules:
            for ways in ([], [("", "a")], [("", "b")], [("0", "a"), ("1", "b")], [("1", "b")]):
                for lines in ([], [(("h", "a"), ("h", "b"))]):
                    net = ([("to", 1)], [("h", ([("a", some), ("b", [("-", "pass", "0")])], ways))], lines)
                    self.check_all(net, [0], [["-"], ["0"], ["1"], []])

    def test_some_nets(self):
        words = []
        for width in range(1, 7):
            chance = random.Random(width)
            for number in range(10):
                net = some_net(chance, some_layout(chance, width), range(width), 4)
                heaps = [["-" * width], [chance.choice(all_rows(width))]] + some_heaps(number, width, 1, 6)
                words.extend(self.check_all(net, range(width), heaps))
        self.assertGreater(words.count("yes"), 500)
        self.assertGreater(words.count("no"), 500)

    def test_many_houses(self):
        chance = random.Random(10)
        for number in range(20):
            net = some_net(chance, some_layout(chance, 4), range(4), 9)
            walks = self.walks(net, range(4))
            for spot, goal in itertools.product(spots_of(net), open_of(net)):
                for beside in [None] + chance.sample([name for name, house in net[1]], 1):
                    self.check(net, range(4), walks, spot, ["----"], goal + (["0---", "-1-1"],), beside)


class WideNets(Asks):
    """Nets of up to 48 places, which tell with both heaps at most twelve of them."""

    def test_some_nets(self):
        chance = random.Random(48)
        words = []
        for width in (7, 13, 30, 47, 48):
            for count in (2, 4, 6):
                layout = some_layout(chance, width)
                places = some_places(chance, layout, count)
                net = some_net(chance, layout, places, 3)
                words.extend(self.check_all(net, places, [["-" * count]] + some_heaps(width, count, 2, 5)))
        self.assertGreater(words.count("yes"), 100)
        self.assertGreater(words.count("no"), 100)

    def test_twelve_places(self):
        chance = random.Random(33)
        layout = [("a", 20), ("to", 20), ("b", 8)]
        places = [0, 2, 11, 18, 19, 20, 21, 22, 23, 31, 46, 47]
        words = []
        while len(words) < 40:
            net = some_net(chance, layout, places[1:11], 5)
            for spot in spots_of(net):
                end = plain_walk(net, *spot, filled(chance, "-" * 48))[1]
                # From most spots no letter comes out: these are passed by.
                if end[0] == "out":
                    walks = {spot: plain_walks(chance, net, places, *spot)}
                    for beside in (None, net[1][-1][0]):
                        heap, rows = [[some_signs(chance, 12, range(12), "01-----") for row in range(3)]
                                      for each in range(2)]
                        words.append(self.check(net, places, walks, spot, heap, end[1:3] + (rows,), beside))
        self.assertIn("yes", words)
        self.assertIn("no", words)


class ByHand(Asks):
    def test_one_house(self):
        net = (TO, [("a", passing("out"))], [])
        self.assertEqual(can_come(net, "a", "in", ["01"], ("a", "out", ["0-"])), ("yes", "01"))
        self.assertEqual(can_come(net, "a", "in", ["0-"], ("a", "out", ["-1"])), ("yes", "01"))
        told = can_come(net, "a", "in", ["0-"], ("a", "out", ["1-"]))
        self.assertEqual(told, ("no", [("0-", ("out", "a", "out", "--"), ["a"])]))
        self.assertEqual(can_come(net, "a", "in", ["0-"], ("a", "in", ["0-"])), told)

    def test_goal_at_the_spot_of_laying_in(self):
        net = (TO, [("a", passing("in"))], [])
        self.assertEqual(can_come(net, "a", "in", ["01"], ("a", "in", ["--"])), ("yes", "01"))
        self.assertEqual(can_come(net, "a", "out", ["01"], ("a", "out", ["--"]))[0], "no")

    def test_letter_is_told_as_it_is_laid_in(self):
        rules = [("0-", "pass", "1-"), ("1-", "drop", "--")]
        net = (TO, [("a", ([("in", rules), ("out", [])], [("", "out")]))], [])
        self.assertEqual(can_come(net, "a", "in", ["-1"], ("a", "out", ["1-"])), ("yes", "01"))
        self.assertEqual(can_come(net, "a", "in", ["--"], ("a", "out", ["0-"]))[0], "no")
        self.assertEqual(can_come(net, "a", "in", ["1-"], ("a", "out", ["--"])),
                         ("no", [("1-", ("drop", "a", "in", 1), ["a"])]))

    def test_no_rows(self):
        net = (TO, [("a", passing("out"))], [])
        self.assertEqual(can_come(net, "a", "in", [], ("a", "out", ["--"])), ("no", []))
        self.assertEqual(can_come(net, "a", "in", [], ("a", "out", [])), ("no", []))
        told = can_come(net, "a", "in", ["--"], ("a", "out", []))
        self.assertEqual(told, ("no", [("--", ("out", "a", "out", "--"), ["a"])]))

    def test_no_rules_and_no_ways(self):
        net = (TO, [("a", ([("in", []), ("out", list(PASS))], []))], [])
        for door in ("in", "out"):
            for goal in ("in", "out"):
                self.assertEqual(can_come(net, "a", door, ["--"], ("a", goal, ["--"]))[0], "no")

    def test_goal_that_is_not_open(self):
        net = (TO, [("a", passing("out")), ("b", passing("out"))], [(("a", "out"), ("b", "in"))])
        for goal in (("a", "out"), ("b", "in")):
            told = can_come(net, "a", "in", ["--"], goal + (["--"],))
            self.assertEqual(told, ("no", [("--", ("out", "b", "out", "--"), ["a", "b"])]))
        self.assertEqual(can_come(net, "a", "in", ["11"], ("b", "out", ["--"])), ("yes", "11"))

    def test_laid_in_at_a_spot_that_is_not_open(self):
        net = (TO, [("a", passing("out")), ("b", passing("out"))], [(("a", "out"), ("b", "in"))])
        self.assertEqual(can_come(net, "b", "in", ["11"], ("b", "out", ["--"])), ("yes", "11"))
        self.assertEqual(can_come(net, "a", "out", ["11"], ("b", "out", ["--"])), ("yes", "11"))

    def test_house_beside(self):
        """Letters with 0 come to c by a, and those with 1 by b."""
        fork = ([("in", list(PASS)), ("left", []), ("right", [])], [("0", "left"), ("1", "right")])
        end = ([("in", list(PASS)), ("side", list(PASS)), ("out", [])], [("", "out")])
        net = (TO, [("s", fork), ("a", passing("out")), ("b", passing("out")), ("c", end), ("d", passing("out"))],
               [(("s", "left"), ("a", "in")), (("s", "right"), ("b", "in")), (("a", "out"), ("c", "in")),
                (("c", "side"), ("b", "out"))])
        goal = ("c", "out", ["--"])
        self.assertEqual(can_come(net, "s", "in", ["1-"], goal, "a"), ("yes", "11"))
        self.assertEqual(can_come(net, "s", "in", ["1-"], goal, "b"), ("yes", "10"))
        self.assertEqual(can_come(net, "s", "in", ["11"], goal, "b"),
                         ("no", [("11", ("out", "c", "out", "--"), ["b", "c", "s"])]))
        self.assertEqual(can_come(net, "s", "in", ["11"], goal, "a"), ("yes", "11"))
        for beside in (None, "d"):
            self.assertEqual(can_come(net, "s", "in", ["11"], goal, beside), ("yes", "11"))
        for beside in ("s", "c"):
            self.assertEqual(can_come(net, "s", "in", ["--"], goal, beside)[0], "no")
        self.check_all(net, range(2), [["--"], ["0-"], ["-0", "11"]])

    def test_rings(self):
        for names in (["a"], ["b", "a"]):
            net = ring_of(names)
            for goal in spots_of(net):
                self.assertEqual(can_come(net, names[0], "in", ["--"], goal + (["--"],)),
                                 ("no", [("--", ("ring", min(names)), sorted(names))]))

    def test_one_letter_leaves_a_long_ring(self):
        net = counting(5, 4)
        leave = ([("in", [("10101-", "pass", "------"), ("------", "pass", "-----1")]), ("out", []), ("side", [])],
                 [("1", "out"), ("0", "side")])
        houses = [(name, leave if name == "hc" else house) for name, house in net[1]]
        net = (net[0], houses, lines_round([name for name, house in houses]))
        walks = self.walks(net, range(6))
        for row in ("00000-", "-----0", "10101-", "10110-", "-----1"):
            for rows in (["------"], ["10101-"], ["0-----"], ["-----1"]):
                for beside in (None, "ha", "hb", "hc", "hd"):
                    self.check(net, range(6), walks, ("hb", "in"), [row], ("hc", "side", rows), beside)


class Refused(Asks):
    net = (TO, [("a", passing("out")), ("b", ([], []))], [])

    def refused(self, kind, spot, goal, *beside):
        for heap in ([], ["--"], ["0-", "01"]):
            for rows in ([], ["-1"]):
                check_refused(self, kind, can_come, self.net, *spot, heap, goal + (rows,), *beside)

    def test_spot(self):
        for goal in (("a", "out"), ("c", "out"), ("a", "none")):
            for beside in ([], [None], ["a"], ["c"]):
                for name in ("", "c", "aa", "in"):
                    self.refused("NoHouse", (name, "in"), goal, *beside)
                    self.refused("NoHouse", (name, "none"), goal, *beside)
                for spot in (("a", ""), ("a", "none"), ("a", "a"), ("b", "in")):
                    self.refused("NoDoor", spot, goal, *beside)

    def test_goal(self):
        for beside in ([], [None], ["a"], ["c"]):
            for name in ("", "c", "aa", "in"):
                self.refused("NoHouse", ("a", "in"), (name, "in"), *beside)
                self.refused("NoHouse", ("a", "in"), (name, "none"), *beside)
            for goal in (("a", ""), ("a", "none"), ("a", "a"), ("b", "in")):
                self.refused("NoDoor", ("a", "in"), goal, *beside)

    def test_beside(self):
        for name in ("", "c", "aa", "in", "to"):
            self.refused("NoHouse", ("a", "in"), ("a", "out"), name)

    def test_not_refused(self):
        for beside in (None, "a", "b"):
            self.assertEqual(can_come(self.net, "a", "in", [], ("a", "out", []), beside), ("no", []))
